import PyProof.Rows.All
import Wide.All
import OpenK.AllK
import Wide.FinOn
import Lean
import PyProof.EqAt
import PyProof.EqKinds
import PyProof.TupleCall
import PySem.Challenge.RW_boxnarrow_k11_numbers_written
set_option Elab.async false
set_option linter.all false
set_option maxRecDepth 100000
/-! THE HAND LAYER, for ints, bools, texts, own classes, LISTS and tuples (index, slices, in, append, pop ..), calls, loops. Paste it whole ahead of your own text; what your proof does not reach may be deleted. -/
namespace L2
open PySem PySem.Spec PyProof.Rows

/-- a key: an int or a str -/
abbrev Key := Sum Int Str
def keyIs : Key → Value → Bool
  | .inl k, v => Value.isInt k v
  | .inr x, v => Value.isStrOf x v
def keyH (w : World) : Key → Int
  | .inl k => hashInt k
  | .inr x => hashStr w x
theorem keyIs_shape : ∀ {k : Key} {v : Value}, keyIs k v = true → (∃ i t, k = Sum.inl i ∧ v = Value.int i t) ∨ (∃ x t, k = Sum.inr x ∧ v = Value.str x t)
  | .inl i, v, h => by
    obtain ⟨t, e⟩ := Value.isInt_shape (k := i) (v := v) h
    exact .inl ⟨i, t, rfl, e⟩
  | .inr x, v, h => by
    obtain ⟨t, e⟩ := Value.isStrOf_shape (x := x) (v := v) h
    exact .inr ⟨x, t, rfl, e⟩
theorem key_ll (a b : Int) : decide ((Sum.inl a : Key) = Sum.inl b) = (a == b) := by
  by_cases e : a = b
  · subst e; simp
  · have h : ¬ (Sum.inl a : Key) = Sum.inl b := fun q => e (Sum.inl.inj q)
    rw [decide_eq_false h]
    exact (beq_eq_false_iff_ne.mpr e).symm
theorem key_rr (a b : Str) : decide ((Sum.inr a : Key) = Sum.inr b) = decide (a = b) := by
  by_cases e : a = b
  · subst e; simp
  · have h : ¬ (Sum.inr a : Key) = Sum.inr b := fun q => e (Sum.inr.inj q)
    rw [decide_eq_false h, decide_eq_false e]
theorem key_lr (a : Int) (b : Str) : decide ((Sum.inl a : Key) = Sum.inr b) = false := decide_eq_false (fun q => nomatch q)
theorem key_rl (a : Str) (b : Int) : decide ((Sum.inr a : Key) = Sum.inl b) = false := decide_eq_false (fun q => nomatch q)

def mixKind (prog : Program) (w : World) : PySem.KeyKind prog w Key where
  is := keyIs
  hash := keyH w
  inj := fun v a b ha hb => by
    rcases keyIs_shape ha with ⟨i, t, rfl, rfl⟩ | ⟨x, t, rfl, rfl⟩
    · rcases keyIs_shape hb with ⟨j, u, rfl, e⟩ | ⟨y, u, rfl, e⟩
      · injection e with e1 _; rw [e1]
      · exact nomatch e
    · rcases keyIs_shape hb with ⟨j, u, rfl, e⟩ | ⟨y, u, rfl, e⟩
      · exact nomatch e
      · injection e with e1 _; rw [e1]
  byValue := fun k v h => by
    rcases keyIs_shape h with ⟨i, t, rfl, rfl⟩ | ⟨x, t, rfl, rfl⟩ <;> rfl
  pyHash := fun hv h => by
    rcases keyIs_shape hv with ⟨i, t, rfl, rfl⟩ | ⟨x, t, rfl, rfl⟩
    · exact wpAny_pyHash_int h
    · exact wpAny_pyHash_str h
  eqBool := fun hu hv h => by
    rcases keyIs_shape hu with ⟨i, t, rfl, rfl⟩ | ⟨x, t, rfl, rfl⟩
    · rcases keyIs_shape hv with ⟨j, u, rfl, rfl⟩ | ⟨y, u, rfl, rfl⟩
      · rw [key_ll] at h; exact wpAny_eqBool_int h
      · rw [key_lr] at h; exact SeqAt.EqAt.int_str i t y u _ _ _ _ h
    · rcases keyIs_shape hv with ⟨j, u, rfl, rfl⟩ | ⟨y, u, rfl, rfl⟩
      · rw [key_rl] at h; exact SeqAt.EqAt.str_int x t j u _ _ _ _ h
      · rw [key_rr] at h; exact wpAny_eqBool_str h
  «strs» := fun k x t v h => by
    rcases keyIs_shape h with ⟨i, u, rfl, e⟩ | ⟨y, u, rfl, e⟩
    · exact nomatch e
    · injection e with e1 _
      subst e1
      cases v <;> rfl

end L2

namespace L2
open PySem PySem.Spec PyProof.Rows

/-- a value, without the heap -/
inductive V where
  | non | bl (b : Bool) | int (i : Int) | str (x : Str) | byt (b : Array UInt8) | flt (b : UInt64) | ref (a : Addr) | ty (n : String)
  deriving DecidableEq

def RelV : V → Value → Prop
  | .non, u => u = Value.none
  | .bl b, u => u = Value.bool b
  | .int i, u => ∃ t, u = Value.int i t
  | .str x, u => ∃ t, u = Value.str x t
  | .byt b, u => ∃ t, u = Value.bytes b t
  | .flt b, u => ∃ t, u = Value.float b t
  | .ref a, u => u = Value.ref a
  | .ty n, u => u = Value.type n

abbrev Vals : List V → List Value → Prop := Paired RelV
theorem Vals.length {xs : List V} {us : List Value} (r : Vals xs us) : xs.length = us.length := Paired.length r
theorem Vals.get : ∀ {xs : List V} {us : List Value} {i : Nat} {x : V}, Vals xs us → xs[i]? = some x → ∃ u, us[i]? = some u ∧ RelV x u
  | _, _, _, _, .nil, e => by simp at e
  | _, _, 0, _, .cons r _, e => by simp at e; subst e; exact ⟨_, rfl, r⟩
  | _, _, i + 1, x, .cons _ t, e => by
    obtain ⟨u, h1, h2⟩ := Vals.get (i := i) (x := x) t (by simpa using e)
    exact ⟨u, by simpa using h1, h2⟩
theorem Vals.set {x : V} {u : Value} (r : RelV x u) : ∀ {xs : List V} {us : List Value} (i : Nat), Vals xs us → Vals (xs.set i x) (us.set i u)
  | _, _, _, .nil => .nil
  | _, _, 0, .cons _ t => .cons r t
  | _, _, i + 1, .cons q t => .cons q (Vals.set r i t)
theorem Vals.append : ∀ {xs ys : List V} {us ws : List Value}, Vals xs us → Vals ys ws → Vals (xs ++ ys) (us ++ ws)
  | _, _, _, _, .nil, s => s
  | _, _, _, _, .cons r t, s => .cons r (Vals.append t s)
theorem Vals.take : ∀ {xs : List V} {us : List Value} (n : Nat), Vals xs us → Vals (xs.take n) (us.take n)
  | _, _, 0, _ => .nil
  | _, _, _ + 1, .nil => .nil
  | _, _, n + 1, .cons r t => .cons r (Vals.take n t)
theorem Vals.drop : ∀ {xs : List V} {us : List Value} (n : Nat), Vals xs us → Vals (xs.drop n) (us.drop n)
  | _, _, 0, r => r
  | _, _, _ + 1, .nil => .nil
  | _, _, n + 1, .cons _ t => Vals.drop n t
def RelO : Option V → Option Value → Prop
  | some v, some u => RelV v u
  | none, none => True
  | _, _ => False
def KV {κ : Type} : List (κ × V) → List (κ × Value) → Prop := Paired fun (p : κ × V) (q : κ × Value) => p.1 = q.1 ∧ RelV p.2 q.2

/-- a key of a dict (00_mix): an int or a text -/
def kV : Key → V
  | .inl i => .int i
  | .inr x => .str x

/-- what stands at a tracked address -/
inductive HO where
  /-- a list -/
  | lst (xs : List V)
  /-- a tuple (never changes) -/
  | tup (xs : List V)
  /-- a dict whose keys are ints and texts; one whose keys are tuples of ints and texts (the empty one is both) -/
  | dK (kvs : List (Key × V)) | dT (kvs : List (List Key × V))
  /-- a set of ints: its members, its size -/
  | set (S : Int → Bool) (n : Nat)
  /-- an instance of the class at C, its dict at dx, its attributes -/
  | ins (C dx : Addr) (fs : List (Str × V))
  /-- the dict of the instance at x -/
  | own (x : Addr)
  /-- the dict of an exception -/
  | xd (fs : List (Str × V))
  /-- a bound method, f of x -/
  | met (f x : Addr)
  /-- a range object lo, lo + 1, .. below hi -/
  | rng (lo hi : Int)
  /-- a thing that is known to the object (the script; a dict while a loop walks it): read, never written while it is so -/
  | frz (o : Obj) (u : HO)
  /-- a code object's table -/
  | tbl (ps : Array Value)
  /-- any other thing, by what is true of its one object (a def of one's own: SetO a S n := HO.ext fun h => ..) -/
  | ext (φ : Heap → Prop)

abbrev Hp := Addr → Option HO
def upd (H : Hp) (a : Addr) (o : HO) : Hp := fun b => if b = a then some o else H b
theorem upd_same {H : Hp} {a : Addr} {o : HO} : upd H a o a = some o := by unfold upd; rw [if_pos rfl]
theorem upd_ne {H : Hp} {a b : Addr} {o : HO} (h : b ≠ a) : upd H a o b = H b := by unfold upd; rw [if_neg h]
/-- two objects of different content stand apart -/
theorem ne_of {H : Hp} {a b : Addr} {o u : HO} (h : H a = some o) (h' : H b = some u) (d : o ≠ u) : a ≠ b := by
  intro e; subst e; rw [h] at h'; exact d (Option.some.inj h')
theorem ne_of_none {H : Hp} {a b : Addr} {o : HO} (h : H a = some o) (h' : H b = none) : a ≠ b := by
  intro e; subst e; rw [h] at h'; cases h'

section
variable (P : Program) (w : World)
def ObjOk (H : Hp) (h : Heap) (a : Addr) : HO → Prop
  | .lst xs => xs.length ≤ sizeLine ∧ ∃ (its : List Value) (n : Nat), Vals xs its ∧ h.get? a = some { cls := .type "list", data := .seq its.toArray n }
  | .tup xs => xs.length ≤ sizeLine ∧ ∃ its : List Value, Vals xs its ∧ IsTup h a its.toArray
  | .dK kvs => kvs.length ≤ sizeLine ∧ (a == sysModules) = false ∧ ∃ vs, KV kvs vs ∧ h.DictOf (mixKind P w) a vs
  | .dT kvs => kvs.length ≤ sizeLine ∧ (a == sysModules) = false ∧ ∃ xs : List (List Key × Addr × Value),
      Paired (fun (p : List Key × V) (q : List Key × Addr × Value) => p.1 = q.1 ∧ H q.2.1 = some (.tup (p.1.map kV)) ∧ RelV p.2 q.2.2) kvs xs ∧
      ∃ o es ep, h.get? a = some o ∧ o.ExactDict ∧ o.data = .dict es ep ∧ es.toList = xs.map (entryOfKey (tupleKind (mixKind P w))) ∧ (xs.map (·.1)).Nodup
  | .set S n => h.SetOf (intKind P w) a S n
  | .ins C dx fs => H dx = some (.own a) ∧ fs.length ≤ 1000 ∧ dx ≠ a ∧ h.get? a = some (PySem.W.instObj C dx) ∧
      ∃ mA, h.Ns1 dx mA ∧ (∀ f, RelO (fs.lookup f) (mA f)) ∧ PySem.Within mA (fs.map (·.1))
  | .own _ => ∃ o, h.get? a = some o
  | .xd fs => ∃ mA, h.Ns1 a mA ∧ ∀ f, RelO (fs.lookup f) (mA f)
  | .rng lo hi => ∃ t u v, h.get? a = some { cls := .type "range", data := .fields #[.int lo t, .int hi u, .int 1 v] }
  | .frz o u => h.get? a = some o ∧ ObjOk H h a u
  | .tbl ps => h.get? a = some { cls := .none, data := .fields ps }
  | .met f x => h.get? a = some (PySem.W.methodObj (.ref f) (.ref x))
  | .ext φ => φ h ∧ (∃ o, h.get? a = some o) ∧ ∀ h1 h2 : Heap, φ h1 → (∀ o, h1.get? a = some o → h2.get? a = some o) → φ h2
/-- the abstract heap is held -/
def HOk (H : Hp) (h : Heap) : Prop := ∀ a o, H a = some o → ObjOk P w H h a o
end

section
variable {P : Program} {w : World} {H H' : Hp} {h h' : Heap} {a : Addr} {o : HO}
theorem ObjOk.lt (x : ObjOk P w H h a o) : a < h.objs.size := by
  cases o with
  | lst xs => obtain ⟨_, _, _, _, e⟩ := x; exact Heap.lt_size e
  | tup xs => obtain ⟨_, _, _, p⟩ := x; exact p.lt
  | dK kvs => obtain ⟨_, _, _, _, o, _, _, e, _⟩ := x; exact Heap.lt_size e
  | dT kvs => obtain ⟨_, _, _, _, o, _, _, e, _⟩ := x; exact Heap.lt_size e
  | set S n => obtain ⟨o, _, _, _, e, _⟩ := x; exact Heap.lt_size e
  | ins C dx fs => obtain ⟨_, _, _, e, _⟩ := x; exact Heap.lt_size e
  | own y => obtain ⟨_, e⟩ := x; exact Heap.lt_size e
  | xd fs => obtain ⟨_, ⟨_, _, _, e, _⟩, _⟩ := x; exact Heap.lt_size e
  | rng lo hi => obtain ⟨_, _, _, e⟩ := x; exact Heap.lt_size e
  | frz ob u => obtain ⟨e, _⟩ := x; exact Heap.lt_size e
  | tbl ps => exact Heap.lt_size (show h.get? a = some _ from x)
  | met f y => exact Heap.lt_size (show h.get? a = some _ from x)
  | ext φ => obtain ⟨_, ⟨_, e⟩, _⟩ := x; exact Heap.lt_size e
theorem Paired.mapP {α β : Type} {F G : α → β → Prop} : ∀ {l₁ : List α} {l₂ : List β}, Paired F l₁ l₂ → (∀ a b, F a b → G a b) → Paired G l₁ l₂
  | _, _, .nil, _ => .nil
  | _, _, .cons r t, f => .cons (f _ _ r) (Paired.mapP t f)
/-- what an object's description leans on: its own object, its own dict, the tuples -/
theorem ObjOk.stay (x : ObjOk P w H h a o) (k : ∀ b u, (b = a ∨ H b = some (.own a)) → h.get? b = some u → h'.get? b = some u)
    (ho : ∀ b, H b = some (.own a) → H' b = some (.own a)) (ht : ∀ b xs, H b = some (.tup xs) → H' b = some (.tup xs)) : ObjOk P w H' h' a o := by
  induction o with
  | lst xs => obtain ⟨z, its, n, r, e⟩ := x; exact ⟨z, its, n, r, k _ _ (.inl rfl) e⟩
  | tup xs => obtain ⟨z, its, r, ob, e, c⟩ := x; exact ⟨z, its, r, ob, k _ _ (.inl rfl) e, c⟩
  | dK kvs => obtain ⟨z, y, vs, r, ob, es, ep, e, c⟩ := x; exact ⟨z, y, vs, r, ob, es, ep, k _ _ (.inl rfl) e, c⟩
  | dT kvs =>
    obtain ⟨z, y, xs, r, ob, es, ep, e, c⟩ := x
    exact ⟨z, y, xs, Paired.mapP r fun p q z => ⟨z.1, ht _ _ z.2.1, z.2.2⟩, ob, es, ep, k _ _ (.inl rfl) e, c⟩
  | set S n => obtain ⟨ob, es, ep, t, e, c⟩ := x; exact ⟨ob, es, ep, t, k _ _ (.inl rfl) e, c⟩
  | ins C dx fs =>
    obtain ⟨d, z, ne, e, mA, ⟨od, es, ep, e2, c⟩, r⟩ := x
    exact ⟨ho _ d, z, ne, k _ _ (.inl rfl) e, mA, ⟨od, es, ep, k _ _ (.inr d) e2, c⟩, r⟩
  | own y => obtain ⟨ob, e⟩ := x; exact ⟨ob, k _ _ (.inl rfl) e⟩
  | xd fs => obtain ⟨mA, ⟨od, es, ep, e, c⟩, r⟩ := x; exact ⟨mA, ⟨od, es, ep, k _ _ (.inl rfl) e, c⟩, r⟩
  | rng lo hi => obtain ⟨t, u, v, e⟩ := x; exact ⟨t, u, v, k _ _ (.inl rfl) e⟩
  | frz ob u ih => obtain ⟨e, q⟩ := x; exact ⟨k _ _ (.inl rfl) e, ih q⟩
  | tbl ps =>
    have e : h.get? a = some { cls := .none, data := .fields ps } := x
    show h'.get? a = some { cls := .none, data := .fields ps }
    exact k a _ (.inl rfl) e
  | met f y =>
    have e : h.get? a = some (PySem.W.methodObj (.ref f) (.ref y)) := x
    show h'.get? a = some (PySem.W.methodObj (.ref f) (.ref y))
    exact k a _ (.inl rfl) e
  | ext φ => obtain ⟨p, ⟨o, e⟩, st⟩ := x; exact ⟨st _ _ p fun o q => k _ _ (.inl rfl) q, ⟨o, k _ _ (.inl rfl) e⟩, st⟩
theorem HOk.lt (x : HOk P w H h) (e : H a = some o) : a < h.objs.size := (x a o e).lt
theorem HOk.fresh (x : HOk P w H h) (e : h.objs.size ≤ a) : H a = none := by
  cases q : H a with
  | none => rfl
  | some u => exact absurd (Nat.lt_of_lt_of_le (x.lt q) e) (Nat.lt_irrefl _)
/-- every object of the heap is kept -/
theorem HOk.kept (x : HOk P w H h) (k : ∀ b u, h.get? b = some u → h'.get? b = some u) : HOk P w H h' := fun a o e =>
  (x a o e).stay (fun b u _ q => k b u q) (fun _ q => q) fun _ _ q => q
/-- a new object is laid and tracked -/
theorem HOk.laid (x : HOk P w H h) (k : ∀ b u, h.get? b = some u → h'.get? b = some u) (hp : h.objs.size ≤ a) (new : ObjOk P w (upd H a o) h' a o) : HOk P w (upd H a o) h' := fun b u e => by
  have hn := x.fresh hp
  by_cases hb : b = a
  · subst hb; rw [upd_same] at e; cases e; exact new
  · rw [upd_ne hb] at e
    exact (x b u e).stay (fun c v _ q => k c v q) (fun c q => by rw [upd_ne (ne_of_none q hn)]; exact q) fun c xs q => by rw [upd_ne (ne_of_none q hn)]; exact q
end

/-- what may be read as u: it is u, or a known u -/
def Rd (H : Hp) (a : Addr) (u : HO) : Prop := H a = some u ∨ ∃ o, H a = some (.frz o u)
theorem Rd.of {H : Hp} {a : Addr} {u : HO} (h : H a = some u) : Rd H a u := .inl h
theorem Rd.ok {P : Program} {w : World} {H : Hp} {h : Heap} {a : Addr} {u : HO} (r : Rd H a u) (x : HOk P w H h) : ObjOk P w H h a u := by
  rcases r with r | ⟨o, r⟩
  · exact x a u r
  · obtain ⟨_, q⟩ := x a _ r
    exact q
/-- what may be written -/
def Mut : Option HO → Prop
  | some (.lst _) => True
  | some (.dK _) => True
  | some (.dT _) => True
  | some (.set _ _) => True
  | some (.ins _ _ _) => True
  | some (.ext _) => True
  | _ => False
section
variable {P : Program} {w : World} {H : Hp} {h h' : Heap} {x e : Addr} {o' : HO}
/-- the object at e is changed: x itself, or the dict of the instance x -/
theorem HOk.write (ok : HOk P w H h) (mu : Mut (H x)) (he : e = x ∨ H e = some (.own x)) (k : ∀ b u, b ≠ e → h.get? b = some u → h'.get? b = some u) (heo : ∃ u, h'.get? e = some u)
    (new : ObjOk P w (upd H x o') h' x o') : HOk P w (upd H x o') h' := fun b u q => by
  have nown : ∀ c y, H c = some (.own y) → c ≠ x := fun c y r z => by subst z; rw [r] at mu; exact mu
  have ntup : ∀ c xs, H c = some (.tup xs) → c ≠ x := fun c xs r z => by subst z; rw [r] at mu; exact mu
  by_cases hb : b = x
  · subst hb; rw [upd_same] at q; cases q; exact new
  · rw [upd_ne hb] at q
    by_cases hbe : b = e
    · have q' : H b = some (.own x) := by
        rcases he with z | z
        · exact absurd (hbe.trans z) hb
        · rw [hbe]; exact z
      rw [q] at q'; cases q'
      obtain ⟨v, hv⟩ := heo
      exact ⟨v, by rw [hbe]; exact hv⟩
    · refine (ok b u q).stay (fun c v hc r => k c v ?_ r) (fun c r => by rw [upd_ne (nown c b r)]; exact r) fun c xs r => by rw [upd_ne (ntup c xs r)]; exact r
      rcases hc with rfl | hc
      · exact hbe
      · rintro rfl
        rcases he with z | z
        · exact nown c b hc z
        · rw [hc] at z; cases z; exact hb rfl
end

/-! ### kept unless tracked; of the frames at fs (the callers') the slots may change (an exception that passes writes there); of the records at ex (iterators) nothing is said -/
structure Un (fs ex : List Addr) (H H' : Hp) (h h' : Heap) : Prop where
  keep : ∀ b o, h.get? b = some o → H b = none → b ∉ fs → b ∉ ex → h'.get? b = some o
  slot : ∀ b o, h.get? b = some o → H b = none → b ∈ fs → b ∉ ex → ∃ sl, h'.get? b = some { o with slots := sl }
  free : ∀ b o, h.get? b = some o → H b = none → b ∉ ex → H' b = none
  there : ∀ b o, h.get? b = some o → b ∉ ex → ∃ o', h'.get? b = some o'
  tups : ∀ b xs, H b = some (.tup xs) → H' b = some (.tup xs)
  frzs : ∀ b o u, H b = some (.frz o u) → H' b = some (.frz o u)
  tbls : ∀ b ps, H b = some (.tbl ps) → ∃ more, H' b = some (.tbl (ps ++ more))
section
variable {fs fs' ex ex' : List Addr} {H H1 H2 : Hp} {h h1 h2 h' : Heap} {a x e : Addr} {o : HO}
theorem Un.any (u : Un fs ex H H1 h h1) {b : Addr} {ob : Obj} (q : h.get? b = some ob) (n : H b = none) (hx : b ∉ ex) : ∃ sl, h1.get? b = some { ob with slots := sl } := by
  by_cases hb : b ∈ fs
  · exact u.slot b ob q n hb hx
  · exact ⟨ob.slots, u.keep b ob q n hb hx⟩
theorem Un.trans (a : Un fs ex H H1 h h1) (b : Un fs ex H1 H2 h1 h2) : Un fs ex H H2 h h2 where
  keep := fun c ob q n hc hx => b.keep c ob (a.keep c ob q n hc hx) (a.free c ob q n hx) hc hx
  slot := fun c ob q n hc hx => by
    obtain ⟨sl, e1⟩ := a.slot c ob q n hc hx
    obtain ⟨sl', e2⟩ := b.slot c _ e1 (a.free c ob q n hx) hc hx
    exact ⟨sl', e2⟩
  free := fun c ob q n hx => by
    obtain ⟨o', e1⟩ := a.there c ob q hx
    exact b.free c o' e1 (a.free c ob q n hx) hx
  there := fun c ob q hx => by
    obtain ⟨o', e1⟩ := a.there c ob q hx
    exact b.there c o' e1 hx
  tups := fun c xs q => b.tups c xs (a.tups c xs q)
  frzs := fun c ob xs q => b.frzs c ob xs (a.frzs c ob xs q)
  tbls := fun c ps q => by
    obtain ⟨m1, e1⟩ := a.tbls c ps q
    obtain ⟨m2, e2⟩ := b.tbls c _ e1
    exact ⟨m1 ++ m2, by rw [e2, Array.append_assoc]⟩
theorem Un.kept (k : ∀ b u, h.get? b = some u → h'.get? b = some u) : Un fs ex H H h h' :=
  ⟨fun b ob q _ _ _ => k b ob q, fun b ob q _ _ _ => ⟨ob.slots, k b ob q⟩, fun _ _ _ n _ => n, fun b ob q _ => ⟨ob, k b ob q⟩, fun _ _ q => q, fun _ _ _ q => q, fun _ ps q => ⟨#[], by rw [q]; simp⟩⟩
theorem Un.refl : Un fs ex H H h h := Un.kept fun _ _ q => q
theorem Un.laid (k : ∀ b u, h.get? b = some u → h'.get? b = some u) (hp : h.objs.size ≤ a) (hn : H a = none) : Un fs ex H (upd H a o) h h' where
  keep := fun b u q _ _ _ => k b u q
  slot := fun b u q _ _ _ => ⟨u.slots, k b u q⟩
  free := fun b u q n _ => by rw [upd_ne (Nat.ne_of_lt (Nat.lt_of_lt_of_le (Heap.lt_size q) hp))]; exact n
  there := fun b u q _ => ⟨u, k b u q⟩
  tups := fun b xs q => by rw [upd_ne (ne_of_none q hn)]; exact q
  frzs := fun b u xs q => by rw [upd_ne (ne_of_none q hn)]; exact q
  tbls := fun b ps q => ⟨#[], by rw [upd_ne (ne_of_none q hn), q]; simp⟩
theorem Un.write (mu : Mut (H x)) (he : e = x ∨ H e = some (.own x)) (k : ∀ b u, b ≠ e → h.get? b = some u → h'.get? b = some u) (heo : ∃ u, h'.get? e = some u) : Un fs ex H (upd H x o) h h' := by
  have hx : ∀ b, H b = none → b ≠ x := fun b n z => by subst z; rw [n] at mu; exact mu
  have hb : ∀ b, H b = none → b ≠ e := fun b n z => by
    subst z
    rcases he with r | r
    · exact hx b n r
    · rw [n] at r; cases r
  have hm : ∀ b u, H b = some u → ¬ Mut (some u) → b ≠ x := fun b u q nm z => by subst z; rw [q] at mu; exact nm mu
  refine ⟨fun b u q n _ _ => k b u (hb b n) q, fun b u q n _ _ => ⟨u.slots, k b u (hb b n) q⟩, fun b u q n _ => by rw [upd_ne (hx b n)]; exact n, fun b u q _ => ?_,
    fun b xs q => by rw [upd_ne (hm b _ q fun z => z)]; exact q, fun b u xs q => by rw [upd_ne (hm b _ q fun z => z)]; exact q, fun b ps q => ⟨#[], by rw [upd_ne (hm b _ q fun z => z), q]; simp⟩⟩
  by_cases hbe : b = e
  · subst hbe; exact heo
  · exact ⟨u, k b u hbe q⟩
theorem Un.mono (u : Un fs ex H H1 h h1) (hs : ∀ b ∈ fs, b ∈ fs') (hx : ∀ b ∈ ex, b ∈ ex') : Un fs' ex' H H1 h h1 :=
  ⟨fun b ob q n hb he => u.keep b ob q n (fun z => hb (hs b z)) fun z => he (hx b z), fun _ _ q n _ he => u.any q n fun z => he (hx _ z), fun b ob q n he => u.free b ob q n fun z => he (hx b z), fun b ob q he => u.there b ob q fun z => he (hx b z), u.tups, u.frzs, u.tbls⟩
end

/-! ### the heap without what is tracked -/
def trk (h : Heap) (H : Hp) : List Addr := (List.range h.objs.size).filter fun a => (H a).isSome
def hidT (h : Heap) (H : Hp) : Heap := PySem.W.hideAll h (trk h H)
theorem hidT_size (h : Heap) (H : Hp) : (hidT h H).objs.size = h.objs.size := PySem.W.hideAll_size _ _
theorem hidT_get {h : Heap} {H : Hp} {b : Addr} {o : Obj} (e : h.get? b = some o) (n : H b = none) : (hidT h H).get? b = some o :=
  PySem.W.hideAll_get _ e fun hm => by
    have q : (H b).isSome = true := (List.mem_filter.mp hm).2
    rw [n] at q; simp at q
theorem of_hidT {h : Heap} {H : Hp} {b : Addr} {o : Obj} (e : (hidT h H).get? b = some o) : h.get? b = some o ∧ H b = none := by
  have e' : h.get? b = some o := PySem.W.of_hideAll (trk h H) e
  refine ⟨e', ?_⟩
  cases q : H b with
  | none => rfl
  | some x =>
    have hm : b ∈ trk h H := List.mem_filter.mpr ⟨List.mem_range.mpr (Heap.lt_size e'), by simp [q]⟩
    have z : (hidT h H).get? b = none := PySem.W.hideAll_none (trk h H) hm
    rw [z] at e; cases e

/-! ### OpenK's ledger, filled with every new object but one -/
def allNews (g h : Heap) (L : Addr) : List (Addr × Obj) := (List.range h.objs.size).filterMap fun a => if a = L ∨ (g.get? a).isSome = true then none else (h.get? a).map fun o => (a, o)
def rest (g h : Heap) (L d : Addr) : List (Addr × Obj) := (allNews g h L).filter fun p => decide (p.1 ≠ d)
end L2

namespace L2
open PySem PySem.Spec PyProof.Rows

/-- the module's facts, over the base: the heap at the law's entry without what is tracked there -/
structure Mod (K : PySem.W.Frag) (mg : Str → Option Value) (base : Heap) : Prop where
  kin : K.In base
  glob : base.Ns mainGlobals mg
  blt : ∃ mb, base.Ns builtinsNs mb ∧ ∀ x : Str, x ≠ "__name__" → mb x = bootBuiltins x
  nolimit : base.NoLimit

/-- the context: a def's body (or a comprehension's block) running. base: fixed through the whole law; s₀, H₀: the entry; outer: the frames whose slots others may change (a def's callers); stack: all frames that run;
   ex: iterators that were made ahead of the entry and are walked here (a comprehension's); fn: the names whose cells were made at the entry (a def: all; a comprehension's block: its own); calm: not within an except suite; pn: pins that every state bears; xe: what is wanted of an exception that leaves the code -/
structure Cx where
  prog : Program
  w : World
  K : PySem.W.Frag
  mg : Str → Option Value
  base : Heap
  A : Around
  N : List Str
  s₀ : Shared
  H₀ : Hp
  env : Env
  outer : List Env
  stack : List Env
  ex : List Addr
  fn : Str → Bool
  calm : Bool
  pn : List (Addr × Obj)
  xe : Value → Shared → Prop
/-- the callers' frames -/
def frs (l : List Env) : List Addr := l.filterMap (·.frame)
abbrev Cx.fs (X : Cx) : List Addr := frs X.outer

def Vis (sc : Scope) (x : Str) : Prop := sc.names.lookup x = some .local ∨ sc.names.lookup x = some .cell ∨ sc.names.lookup x = some .free
def Loc (sc : Scope) (x : Str) : Prop := sc.names.lookup x = some .local ∨ sc.names.lookup x = some .cell
def Look (env : Env) (h : Heap) (m : Str → Option Value) (x : Str) (u : Value) : Prop :=
  (env.kindOf x = some .local ∧ m x = some u) ∨ ((env.kindOf x = some .cell ∨ env.kindOf x = some .free) ∧ ∃ c, env.cells.lookup x = some c ∧ h.IsCell c (some u))

structure Cx.Ok (X : Cx) : Prop where
  mod : Mod X.K X.mg X.base
  kind : X.env.scope.kind = .function
  glob : X.env.globals = mainGlobals
  blt : X.env.builtins = builtinsNs
  above : X.s₀.heap.objs.size ≤ X.env.locals
  inj : ∀ x y c, X.env.cells.lookup x = some c → X.env.cells.lookup y = some c → x = y
  has : ∀ x, (X.env.kindOf x = some .cell ∨ X.env.kindOf x = some .free) → ∃ c, X.env.cells.lookup x = some c
  cab : ∀ x c, X.fn x = true → X.env.cells.lookup x = some c → X.s₀.heap.objs.size ≤ c
  hd : X.calm = true → X.A.handled = none
  frames : X.A.frames = some X.stack
  stk : X.stack = X.outer ∨ (X.stack = X.env :: X.outer ∧ X.env.frame = some X.env.locals)
  exf : ∀ b ∈ X.ex, b ≠ X.env.locals ∧ ∀ x c, X.env.cells.lookup x = some c → c ≠ b
  bs : ∀ b o, X.base.get? b = some o → X.s₀.heap.get? b = some o ∧ X.H₀ b = none
  bsz : X.base.objs.size ≤ X.s₀.heap.objs.size
  noex : ∀ b o, X.base.get? b = some o → b ∉ X.ex
  exfs : ∀ b ∈ X.ex, b ∉ X.fs
  funs : X.s₀.heap.FunFrames X.base X.outer
  frf : ∀ b ∈ X.fs, X.H₀ b = none

structure Inv (X : Cx) (pins : List (Addr × Obj)) (σ : List (Option V)) (H : Hp) (s : Shared) : Prop where
  ok : X.Ok
  os : s.os = X.s₀.os
  bare : AllBare s.gens
  base : Un X.fs X.ex X.H₀ H X.s₀.heap s.heap
  loc : ∃ m, s.heap.Ns X.env.locals m ∧ ∀ (i : Nat) (x : Str) (v : V), X.N[i]? = some x → σ[i]? = some (some v) → Vis X.env.scope x → ∃ u, RelV v u ∧ Look X.env s.heap m x u
  cell : ∀ x c, X.env.cells.lookup x = some c → ∃ v, s.heap.IsCell c v
  free : H X.env.locals = none
  freeC : ∀ x c, X.env.cells.lookup x = some c → H c = none
  pin : ∀ p ∈ X.pn ++ pins, s.heap.get? p.1 = some p.2 ∧ H p.1 = none ∧ p.1 ≠ X.env.locals ∧ p.1 ∉ X.fs ∧ ∀ v, p.2.data ≠ .cell v
  hok : HOk X.prog X.w H s.heap
  len : σ.length = X.N.length

section
variable {X : Cx} {pins : List (Addr × Obj)} {σ : List (Option V)} {H H' : Hp} {s : Shared} {h' : Heap}

theorem Cx.Ok.nofr (ok : X.Ok) {b : Addr} {o : Obj} (e : X.base.get? b = some o) : b ∉ X.fs := fun hb => by
  have := (ok.funs.mem hb).1
  rw [e] at this; cases this
theorem Inv.bs (I : Inv X pins σ H s) : ∀ b o, X.base.get? b = some o → s.heap.get? b = some o ∧ H b = none := fun b o e =>
  ⟨I.base.keep b o (I.ok.bs b o e).1 (I.ok.bs b o e).2 (I.ok.nofr e) (I.ok.noex b o e), I.base.free b o (I.ok.bs b o e).1 (I.ok.bs b o e).2 (I.ok.noex b o e)⟩
theorem Inv.bk (I : Inv X pins σ H s) : ∀ b o, X.base.get? b = some o → s.heap.get? b = some o := fun b o e => (I.bs b o e).1
theorem Inv.mod (I : Inv X pins σ H s) : Mod X.K X.mg X.base := I.ok.mod
theorem Inv.kIn (I : Inv X pins σ H s) : X.K.In s.heap := I.ok.mod.kin.keeps I.bk
theorem Inv.nolimit (I : Inv X pins σ H s) : s.heap.NoLimit := I.ok.mod.nolimit.keeps I.bk
theorem Inv.lt (I : Inv X pins σ H s) : X.env.locals < s.heap.objs.size := let ⟨_, hn, _⟩ := I.loc; hn.lt
theorem Inv.sz (I : Inv X pins σ H s) : X.s₀.heap.objs.size ≤ s.heap.objs.size := Nat.le_trans I.ok.above (Nat.le_of_lt I.lt)
theorem Inv.nofs (I : Inv X pins σ H s) {a : Addr} (h : s.heap.objs.size ≤ a) : a ∉ X.fs := fun hb => by
  obtain ⟨_, o, ho, _⟩ := I.ok.funs.mem hb
  exact absurd (Nat.lt_of_lt_of_le (Heap.lt_size ho) (Nat.le_trans I.sz h)) (Nat.lt_irrefl _)
theorem Inv.cne (I : Inv X pins σ H s) : ∀ x c, X.env.cells.lookup x = some c → c ≠ X.env.locals := fun x c e z => by
  obtain ⟨v, o, ho, hd⟩ := I.cell x c e
  obtain ⟨m, ⟨o', es, ep, ho', hd', _⟩, _⟩ := I.loc
  rw [z, ho'] at ho; cases ho; rw [hd'] at hd; cases hd
theorem Inv.funs (I : Inv X pins σ H s) : s.heap.FunFrames X.base X.outer := by
  have all : ∀ (l : List Env), (∀ b ∈ frs l, b ∈ X.fs) → X.s₀.heap.FunFrames X.base l → s.heap.FunFrames X.base l := by
    intro l
    induction l with
    | nil => intro _ _; trivial
    | cons env r ih =>
      intro hs hl
      obtain ⟨hk, ⟨L, o, hf, hn, ho, hd⟩, hr⟩ := hl
      have hL : L ∈ X.fs := hs L (by unfold frs; rw [List.filterMap_cons, hf]; exact List.mem_cons_self)
      obtain ⟨sl, e⟩ := I.base.slot L o ho (I.ok.frf L hL) hL fun z => I.ok.exfs L z hL
      exact ⟨hk, ⟨L, _, hf, hn, e, hd⟩, ih (fun b hb => hs b (by unfold frs; rw [List.filterMap_cons, hf]; exact List.mem_cons_of_mem _ hb)) hr⟩
  exact all X.outer (fun _ hb => hb) I.ok.funs

/-- the frames that run, for a call -/
theorem Inv.stack (I : Inv X pins σ H s) : s.heap.FunFrames X.base X.stack := by
  rcases I.ok.stk with e | ⟨e, hf⟩
  · rw [e]; exact I.funs
  · rw [e]
    obtain ⟨m, hn, _⟩ := I.loc
    refine .cons (by rw [I.ok.kind]; decide) hf hn ?_ I.funs
    exact Heap.get?_none_of_le (Nat.le_trans I.ok.bsz I.ok.above)
theorem Inv.stkSub (I : Inv X pins σ H s) : ∀ b ∈ frs X.stack, b ∈ X.env.locals :: X.fs := fun b hb => by
  rcases I.ok.stk with e | ⟨e, hf⟩
  · rw [e] at hb; exact List.mem_cons_of_mem _ hb
  · rw [e] at hb
    unfold frs at hb
    rw [List.filterMap_cons, hf] at hb
    exact hb
theorem Inv.stkFree (I : Inv X pins σ H s) : ∀ b ∈ frs X.stack, H b = none := fun b hb => by
  rcases List.mem_cons.mp (I.stkSub b hb) with e | hb
  · rw [e]; exact I.free
  · obtain ⟨_, o, ho, _⟩ := I.ok.funs.mem hb
    exact I.base.free b o ho (I.ok.frf b hb) fun z => I.ok.exfs b z hb

/-- THE STEP: the untracked objects but the frame and the records at ch are kept (the callers' frames up to slots), the frame's map is kept, the new abstract heap is held -/
theorem Inv.step {g' : Array GenState} {t' : Nat} {d' : Drawn} {ch : List Addr} (I : Inv X pins σ H s)
    (hch : ∀ b ∈ ch, (b ∈ X.ex ∨ X.s₀.heap.objs.size ≤ b) ∧ b ≠ X.env.locals ∧ (∀ x c, X.env.cells.lookup x = some c → c ≠ b) ∧ ∀ p ∈ X.pn ++ pins, p.1 ≠ b)
    (keep : ∀ b o, b ≠ X.env.locals → b ∉ X.fs → b ∉ ch → s.heap.get? b = some o → H b = none → h'.get? b = some o)
    (slot : ∀ b o, b ≠ X.env.locals → b ∈ X.fs → b ∉ ch → s.heap.get? b = some o → H b = none → ∃ sl, h'.get? b = some { o with slots := sl }) (free : ∀ b o, b ∉ ch → s.heap.get? b = some o → H b = none → H' b = none)
    (there : ∀ b o, b ∉ ch → s.heap.get? b = some o → ∃ o', h'.get? b = some o')
    (tups : ∀ b xs, H b = some (.tup xs) → H' b = some (.tup xs)) (frzs : ∀ b o u, H b = some (.frz o u) → H' b = some (.frz o u)) (tbls : ∀ b ps, H b = some (.tbl ps) → ∃ more, H' b = some (.tbl (ps ++ more)))
    (ns : ∀ m, s.heap.Ns X.env.locals m → h'.Ns X.env.locals m) (hok : HOk X.prog X.w H' h') (hg : AllBare g') :
    Inv X pins σ H' { s with heap := h', gens := g', drawn := d', toks := t' } := by
  have neL : ∀ b o, X.s₀.heap.get? b = some o → b ≠ X.env.locals := fun b o e => Nat.ne_of_lt (Nat.lt_of_lt_of_le (Heap.lt_size e) I.ok.above)
  have neC : ∀ b o, X.s₀.heap.get? b = some o → b ∉ X.ex → b ∉ ch := fun b o e hx hb => by
    rcases (hch b hb).1 with z | z
    · exact hx z
    · exact absurd (Nat.lt_of_lt_of_le (Heap.lt_size e) z) (Nat.lt_irrefl _)
  have cellK : ∀ x c, X.env.cells.lookup x = some c → ∀ v, s.heap.IsCell c v → h'.IsCell c v := fun x c e v ⟨o, ho, hd⟩ => by
    have nch : c ∉ ch := fun z => (hch c z).2.2.1 x c e rfl
    by_cases hc : c ∈ X.fs
    · obtain ⟨sl, q⟩ := slot c o (I.cne x c e) hc nch ho (I.freeC x c e)
      exact ⟨_, q, hd⟩
    · exact ⟨o, keep c o (I.cne x c e) hc nch ho (I.freeC x c e), hd⟩
  refine ⟨I.ok, I.os, hg, ⟨fun b o e n hb hx => ?_, fun b o e n hb hx => ?_, fun b o e n hx => ?_, fun b o e hx => ?_, fun b xs e => tups b xs (I.base.tups b xs e), fun b o xs e => frzs b o xs (I.base.frzs b o xs e), fun b ps e => ?_⟩, ?_, fun x c e => ?_, ?_, fun x c e => ?_, fun p hp => ?_, hok, I.len⟩
  · exact keep b o (neL b o e) hb (neC b o e hx) (I.base.keep b o e n hb hx) (I.base.free b o e n hx)
  · obtain ⟨sl, e1⟩ := I.base.slot b o e n hb hx
    obtain ⟨sl', e2⟩ := slot b _ (neL b o e) hb (neC b o e hx) e1 (I.base.free b o e n hx)
    exact ⟨sl', e2⟩
  · obtain ⟨o', e1⟩ := I.base.there b o e hx
    exact free b o' (neC b o e hx) e1 (I.base.free b o e n hx)
  · obtain ⟨o', e1⟩ := I.base.there b o e hx
    exact there b o' (neC b o e hx) e1
  · obtain ⟨m1, e1⟩ := I.base.tbls b ps e
    obtain ⟨m2, e2⟩ := tbls b _ e1
    exact ⟨m1 ++ m2, by rw [e2, Array.append_assoc]⟩
  · obtain ⟨m, hn, hl⟩ := I.loc
    refine ⟨m, ns m hn, fun i x v e1 e2 e3 => ?_⟩
    obtain ⟨u, r, l⟩ := hl i x v e1 e2 e3
    refine ⟨u, r, ?_⟩
    rcases l with l | ⟨k, c, e, z⟩
    · exact .inl l
    · exact .inr ⟨k, c, e, cellK x c e _ z⟩
  · obtain ⟨v, z⟩ := I.cell x c e
    exact ⟨v, cellK x c e v z⟩
  · obtain ⟨m, ⟨o, _, _, ho, _⟩, _⟩ := I.loc
    exact free _ o (fun z => (hch _ z).2.1 rfl) ho I.free
  · obtain ⟨v, o, ho, hd⟩ := I.cell x c e
    exact free c o (fun z => (hch c z).2.2.1 x c e rfl) ho (I.freeC x c e)
  · obtain ⟨e, n, ne, nf, d⟩ := I.pin p hp
    have nch : p.1 ∉ ch := fun z => (hch p.1 z).2.2.2 p hp rfl
    exact ⟨keep p.1 p.2 ne nf nch e n, free p.1 p.2 nch e n, ne, nf, d⟩
/-- .. where the frame's own object is kept too -/
theorem Inv.un {t' : Nat} (I : Inv X pins σ H s) (u : Un X.fs [] H H' s.heap h') (hok : HOk X.prog X.w H' h') : Inv X pins σ H' { s with heap := h', toks := t' } := by
  obtain ⟨m, ⟨o, es, ep, ho, r⟩, _⟩ := id I.loc
  obtain ⟨sl, hL⟩ := u.any ho I.free (by simp)
  exact I.step (g' := s.gens) (d' := s.drawn) (ch := []) (fun _ z => nomatch z) (fun b o _ hb _ e n => u.keep b o e n hb (by simp)) (fun b o _ hb _ e n => u.slot b o e n hb (by simp)) (fun b o _ e n => u.free b o e n (by simp)) (fun b o _ e => u.there b o e (by simp)) u.tups u.frzs u.tbls (fun m' hm => by
    obtain ⟨o', es', ep', ho', r'⟩ := hm
    rw [ho] at ho'; cases ho'
    exact ⟨_, es', ep', hL, r'⟩) hok I.bare
/-- behind a call (or a comprehension's block): the slots of this frame may have changed too, the records at ch may have turned -/
theorem Inv.call {g' : Array GenState} {t' : Nat} {d' : Drawn} {ch : List Addr} (I : Inv X pins σ H s) (u : Un (frs X.stack) ch H H' s.heap h') (hok : HOk X.prog X.w H' h') (hg : AllBare g')
    (hch : ∀ b ∈ ch, (b ∈ X.ex ∨ X.s₀.heap.objs.size ≤ b) ∧ b ≠ X.env.locals ∧ (∀ x c, X.env.cells.lookup x = some c → c ≠ b) ∧ ∀ p ∈ X.pn ++ pins, p.1 ≠ b) :
    Inv X pins σ H' { s with heap := h', gens := g', drawn := d', toks := t' } := by
  obtain ⟨m, ⟨o, es, ep, ho, r⟩, _⟩ := id I.loc
  obtain ⟨sl, hL⟩ := u.any ho I.free fun z => (hch _ z).2.1 rfl
  exact I.step (ch := ch) hch (fun b o hL hb hc e n => u.keep b o e n (fun z => (List.mem_cons.mp (I.stkSub b z)).elim hL hb) hc) (fun b o _ _ hc e n => u.any e n hc) (fun b o hc e n => u.free b o e n hc) (fun b o hc e => u.there b o e hc) u.tups u.frzs u.tbls (fun m' hm => by
    obtain ⟨o', es', ep', ho', r'⟩ := hm
    rw [ho] at ho'; cases ho'
    exact ⟨_, es', ep', hL, r'⟩) hok hg
/-- an untracked record of ours (an iterator) has turned -/
theorem Inv.turned {t' : Nat} {it : Addr} (I : Inv X pins σ H s) (k : ∀ b o, b ≠ it → s.heap.get? b = some o → h'.get? b = some o) (hn : H it = none) (hL : it ≠ X.env.locals)
    (h1 : it ∈ X.ex ∨ X.s₀.heap.objs.size ≤ it) (h2 : ∀ x c, X.env.cells.lookup x = some c → c ≠ it) (h3 : ∀ p ∈ X.pn ++ pins, p.1 ≠ it) : Inv X pins σ H { s with heap := h', toks := t' } := by
  have nit : ∀ b u, H b = some u → b ≠ it := fun b u e z => by rw [z, hn] at e; cases e
  refine I.step (g' := s.gens) (d' := s.drawn) (ch := [it]) (fun b hb => ?_) (fun b o _ _ hc e _ => k b o (fun z => hc (by simp [z])) e) (fun b o _ _ hc e _ => ⟨o.slots, k b o (fun z => hc (by simp [z])) e⟩) (fun _ _ _ _ n => n)
    (fun b o hc e => ⟨o, k b o (fun z => hc (by simp [z])) e⟩) (fun _ _ e => e) (fun _ _ _ e => e) (fun b ps e => ⟨#[], by rw [e]; simp⟩) (fun m hm => ?_) (fun b u e => ?_) I.bare
  · have e : b = it := by simpa using hb
    subst e
    exact ⟨h1, hL, h2, h3⟩
  · obtain ⟨o, es, ep, ho, r⟩ := hm
    exact ⟨o, es, ep, k _ o (Ne.symm hL) ho, r⟩
  · refine (I.hok b u e).stay (fun c v hc q => k c v ?_ q) (fun _ q => q) fun _ _ q => q
    rcases hc with z | z
    · rw [z]; exact nit b u e
    · exact nit c _ z
theorem Inv.tok (I : Inv X pins σ H s) (t : Nat) : Inv X pins σ H { s with toks := t } := I.un (h' := s.heap) (t' := t) Un.refl I.hok
/-- all objects kept -/
theorem Inv.kept {t' : Nat} (I : Inv X pins σ H s) (k : ∀ b u, s.heap.get? b = some u → h'.get? b = some u) : Inv X pins σ H { s with heap := h', toks := t' } := I.un (Un.kept k) (I.hok.kept k)
/-- a new object laid and tracked -/
theorem Inv.laid {a : Addr} {o : HO} {t' : Nat} (I : Inv X pins σ H s) (k : ∀ b u, s.heap.get? b = some u → h'.get? b = some u) (hp : s.heap.objs.size ≤ a) (new : ObjOk X.prog X.w (upd H a o) h' a o) :
    Inv X pins σ (upd H a o) { s with heap := h', toks := t' } := I.un (Un.laid k hp (I.hok.fresh hp)) (I.hok.laid k hp new)
/-- an object written -/
theorem Inv.write {x e : Addr} {o : HO} {t' : Nat} (I : Inv X pins σ H s) (mu : Mut (H x)) (he : e = x ∨ H e = some (.own x)) (k : ∀ b u, b ≠ e → s.heap.get? b = some u → h'.get? b = some u) (heo : ∃ u, h'.get? e = some u)
    (new : ObjOk X.prog X.w (upd H x o) h' x o) : Inv X pins σ (upd H x o) { s with heap := h', toks := t' } := I.un (Un.write mu he k heo) (I.hok.write mu he k heo new)
theorem Inv.pins_of {pins' : List (Addr × Obj)} (I : Inv X pins σ H s) (h : ∀ p ∈ pins', s.heap.get? p.1 = some p.2 ∧ H p.1 = none ∧ p.1 ≠ X.env.locals ∧ p.1 ∉ X.fs ∧ ∀ v, p.2.data ≠ .cell v) : Inv X pins' σ H s :=
  ⟨I.ok, I.os, I.bare, I.base, I.loc, I.cell, I.free, I.freeC, fun p hp => (List.mem_append.mp hp).elim (fun z => I.pin p (List.mem_append_left _ z)) (h p), I.hok, I.len⟩

theorem nodup_ix {N : List Str} (hN : N.Nodup) {i j : Nat} {x : Str} (a : N[i]? = some x) (b : N[j]? = some x) : i = j := by
  obtain ⟨h1, e1⟩ := List.getElem?_eq_some_iff.mp a
  obtain ⟨h2, e2⟩ := List.getElem?_eq_some_iff.mp b
  exact (List.getElem_inj hN).mp (e1.trans e2.symm)

/-- a name is stored; what changed -/
theorem store_ok2 {M : Model} {A : Around} {E : Value → Shared → Prop} {i : Nat} {x : Str} {v : V} {u : Value} {Q : Unit → Shared → Prop} (I : Inv X pins σ H s) (hN : X.N.Nodup) (hi : X.N[i]? = some x) (hx : Loc X.env.scope x) (r : RelV v u)
    (h : ∀ s', Inv X pins (σ.set i (some v)) H s' → (∃ a, Heap.SameBut a s.heap s'.heap ∧ (a = X.env.locals ∨ X.env.cells.lookup x = some a)) → Q () s') (hf : X.fn x = true ∨ X.env.scope.names.lookup x = some .local := by first | exact .inl rfl | exact .inr rfl | assumption) : wpAny M A (storeName X.env x u) Q E s := by
  obtain ⟨m, hn, hl⟩ := id I.loc
  have hcls : (X.env.scope.kind == .class || (X.env.scope.kind == .module && X.env.locals != X.env.globals)) = false := by rw [I.ok.kind]; rfl
  have hiσ : i < σ.length := by rw [I.len]; exact (List.getElem?_eq_some_iff.mp hi).1
  have cne := I.cne
  have tracked : ∀ {a : Addr} {h' : Heap}, (∃ o, s.heap.get? a = some o ∧ H a = none) → Heap.SameBut a s.heap h' → HOk X.prog X.w H h' := fun {a h'} ha hs b ob e => by
    obtain ⟨_, _, hfree⟩ := ha
    refine (I.hok b ob e).stay (fun c w' hc q => (hs.2 c ?_).trans q) (fun _ q => q) fun _ _ q => q
    rintro rfl
    rcases hc with rfl | hc
    · rw [hfree] at e; cases e
    · rw [hfree] at hc; cases hc
  rcases hx with hk | hk
  · refine wpAny_storeName_local hk hn (fun h' hn' hs => ?_) hcls
    obtain ⟨oL, _, _, hoL, _⟩ := id hn
    refine h _ ⟨I.ok, I.os, I.bare, ⟨fun b o e n hb hx => ?_, fun b o e n hb hx => ?_, I.base.free, fun b o e hx => ?_, I.base.tups, I.base.frzs, I.base.tbls⟩, ⟨_, hn', fun j y v' e1 e2 e3 => ?_⟩, fun y c e => ?_, I.free, I.freeC, fun p hp => ?_, tracked ⟨oL, hoL, I.free⟩ hs, by simpa using I.len⟩ ⟨_, hs, .inl rfl⟩
    · exact (hs.2 b (Nat.ne_of_lt (Nat.lt_of_lt_of_le (Heap.lt_size e) I.ok.above))).trans (I.base.keep b o e n hb hx)
    · obtain ⟨sl, e1⟩ := I.base.slot b o e n hb hx
      exact ⟨sl, (hs.2 b (Nat.ne_of_lt (Nat.lt_of_lt_of_le (Heap.lt_size e) I.ok.above))).trans e1⟩
    · obtain ⟨o', e1⟩ := I.base.there b o e hx
      exact ⟨o', (hs.2 b (Nat.ne_of_lt (Nat.lt_of_lt_of_le (Heap.lt_size e) I.ok.above))).trans e1⟩
    · by_cases hj : j = i
      · subst hj
        rw [hi] at e1; cases e1
        rw [List.getElem?_set_self hiσ] at e2
        cases e2
        exact ⟨u, r, .inl ⟨hk, by simp⟩⟩
      · rw [List.getElem?_set_ne (Ne.symm hj)] at e2
        obtain ⟨u', r', q⟩ := hl j y v' e1 e2 e3
        refine ⟨u', r', ?_⟩
        rcases q with ⟨k, e⟩ | ⟨k, c, e, z⟩
        · refine .inl ⟨k, ?_⟩
          have : y ≠ x := fun e => hj (nodup_ix hN e1 (e ▸ hi))
          simp [this, e]
        · exact .inr ⟨k, c, e, z.sameBut hs (cne y c e)⟩
    · obtain ⟨w', z⟩ := I.cell y c e
      exact ⟨w', z.sameBut hs (cne y c e)⟩
    · obtain ⟨e, n, ne, nf, d⟩ := I.pin p hp
      exact ⟨(hs.2 p.1 ne).trans e, n, ne, nf, d⟩
  · have hfn : X.fn x = true := by
      rcases hf with z | z
      · exact z
      · rw [z] at hk; cases hk
    obtain ⟨c, hc⟩ := I.ok.has x (.inl hk)
    obtain ⟨w', z⟩ := I.cell x c hc
    refine wpAny_storeName_cell I.ok.kind hk hc z (fun h' hc' hs => ?_)
    obtain ⟨oc, hoc, hocd⟩ := id z
    refine h { s with heap := h' } ⟨I.ok, I.os, I.bare, ⟨fun b o e n hb hx => ?_, fun b o e n hb hx => ?_, I.base.free, fun b o e hx => ?_, I.base.tups, I.base.frzs, I.base.tbls⟩, ⟨m, hn.sameBut hs (Ne.symm (cne x c hc)), fun j y v' e1 e2 e3 => ?_⟩, fun y c' e => ?_, I.free, I.freeC, fun p hp => ?_, tracked ⟨oc, hoc, I.freeC x c hc⟩ hs, by simpa using I.len⟩ ⟨c, hs, .inr hc⟩
    · exact (hs.2 b (Nat.ne_of_lt (Nat.lt_of_lt_of_le (Heap.lt_size e) (I.ok.cab x c hfn hc)))).trans (I.base.keep b o e n hb hx)
    · obtain ⟨sl, e1⟩ := I.base.slot b o e n hb hx
      exact ⟨sl, (hs.2 b (Nat.ne_of_lt (Nat.lt_of_lt_of_le (Heap.lt_size e) (I.ok.cab x c hfn hc)))).trans e1⟩
    · obtain ⟨o', e1⟩ := I.base.there b o e hx
      exact ⟨o', (hs.2 b (Nat.ne_of_lt (Nat.lt_of_lt_of_le (Heap.lt_size e) (I.ok.cab x c hfn hc)))).trans e1⟩
    · by_cases hj : j = i
      · subst hj
        rw [hi] at e1; cases e1
        rw [List.getElem?_set_self hiσ] at e2
        cases e2
        exact ⟨u, r, .inr ⟨.inl hk, c, hc, hc'⟩⟩
      · rw [List.getElem?_set_ne (Ne.symm hj)] at e2
        obtain ⟨u', r', q⟩ := hl j y v' e1 e2 e3
        refine ⟨u', r', ?_⟩
        rcases q with q | ⟨k, c', e, z'⟩
        · exact .inl q
        · refine .inr ⟨k, c', e, z'.sameBut hs ?_⟩
          rintro rfl
          exact hj (nodup_ix hN e1 (I.ok.inj _ _ _ e hc ▸ hi))
    · by_cases hcc : c' = c
      · subst hcc; exact ⟨_, hc'⟩
      · obtain ⟨w2, z2⟩ := I.cell y c' e
        exact ⟨w2, z2.sameBut hs hcc⟩
    · obtain ⟨e, n, ne, nf, d⟩ := I.pin p hp
      refine ⟨(hs.2 p.1 ?_).trans e, n, ne, nf, d⟩
      intro q
      rw [q, hoc] at e
      have q' : oc = p.2 := Option.some.inj e
      exact d w' (by rw [← q']; exact hocd)
theorem store_ok {M : Model} {A : Around} {E : Value → Shared → Prop} {i : Nat} {x : Str} {v : V} {u : Value} {Q : Unit → Shared → Prop} (I : Inv X pins σ H s) (hN : X.N.Nodup) (hi : X.N[i]? = some x) (hx : Loc X.env.scope x) (r : RelV v u)
    (h : ∀ s', Inv X pins (σ.set i (some v)) H s' → Q () s') (hf : X.fn x = true ∨ X.env.scope.names.lookup x = some .local := by first | exact .inl rfl | exact .inr rfl | assumption) : wpAny M A (storeName X.env x u) Q E s :=
  store_ok2 I hN hi hx r (fun s' I' _ => h s' I') hf
/-- behind a call or a block, the state as it is -/
theorem Inv.call' {s' : Shared} {ch : List Addr} (I : Inv X pins σ H s) (ho : s'.os = s.os) (u : Un (frs X.stack) ch H H' s.heap s'.heap) (hok : HOk X.prog X.w H' s'.heap) (hg : AllBare s'.gens)
    (hch : ∀ b ∈ ch, (b ∈ X.ex ∨ X.s₀.heap.objs.size ≤ b) ∧ b ≠ X.env.locals ∧ (∀ x c, X.env.cells.lookup x = some c → c ≠ b) ∧ ∀ p ∈ X.pn ++ pins, p.1 ≠ b) : Inv X pins σ H' s' := by
  obtain ⟨h', g', d', t', o'⟩ := s'
  have e : o' = s.os := ho
  subst e
  exact I.call (g' := g') (t' := t') (d' := d') u hok hg hch
end

/-! ### the judgements -/
/-- an exception: its class, its own dict's address (where it has one), the abstract heap behind it -/
abbrev XK := Value → Option Addr → Hp → Prop
abbrev St := List (Option V)
abbrev VK := V → Hp → Prop
/-- an expression's reading; a test's; an argument list's -/
abbrev TE := St → Hp → VK → Prop
abbrev TT := St → Hp → (Bool → Hp → Prop) → Prop
abbrev TA := St → Hp → (List V → Hp → Prop) → Prop
/-- what is wanted behind a statement -/
structure Ends where
  nx : St → Hp → Prop
  rt : VK
  bk : St → Hp → Prop := fun _ _ => False
  ct : St → Hp → Prop := fun _ _ => False
abbrev TS := Ends → St → Hp → Prop

def EP (X : Cx) (pins : List (Addr × Obj)) (σ : St) (Q : VK) (u : Value) (s' : Shared) : Prop := ∃ v H', Inv X pins σ H' s' ∧ RelV v u ∧ Q v H'
def TP (X : Cx) (pins : List (Addr × Obj)) (σ : St) (Q : Bool → Hp → Prop) (b : Bool) (s' : Shared) : Prop := ∃ H', Inv X pins σ H' s' ∧ Q b H'
def AP (X : Cx) (pins : List (Addr × Obj)) (σ : St) (Q : List V → Hp → Prop) (us : List Value) (s' : Shared) : Prop := ∃ vs H', Inv X pins σ H' s' ∧ Vals vs us ∧ Q vs H'
def SP (X : Cx) (pins : List (Addr × Obj)) (D : Ends) (f : Flow) (s' : Shared) : Prop :=
  match f with
  | .next => ∃ σ' H', Inv X pins σ' H' s' ∧ D.nx σ' H'
  | .brk => ∃ σ' H', Inv X pins σ' H' s' ∧ D.bk σ' H'
  | .cont => ∃ σ' H', Inv X pins σ' H' s' ∧ D.ct σ' H'
  | .ret u => ∃ v σ' H', Inv X pins σ' H' s' ∧ RelV v u ∧ D.rt v H'

def PE (X : Cx) (e : Expr) (t : TE) : Prop :=
  ∀ (pins : List (Addr × Obj)) (s : Shared) (σ : St) (H : Hp) (Q : VK), Inv X pins σ H s → t σ H Q → wpAny (model X.prog X.w) X.A (eval e X.env) (EP X pins σ Q) X.xe s
def PT (X : Cx) (e : Expr) (t : TT) : Prop :=
  ∀ (pins : List (Addr × Obj)) (s : Shared) (σ : St) (H : Hp) (Q : Bool → Hp → Prop), Inv X pins σ H s → t σ H Q → wpAny (model X.prog X.w) X.A (isTrue e X.env (eval e X.env)) (TP X pins σ Q) X.xe s
/-- a test whatever its 'whole' is (and, or) -/
def PW (X : Cx) (e : Expr) (t : TT) : Prop :=
  ∀ (whole : Sem Value) (pins : List (Addr × Obj)) (s : Shared) (σ : St) (H : Hp) (Q : Bool → Hp → Prop), Inv X pins σ H s → t σ H Q → wpAny (model X.prog X.w) X.A (isTrue e X.env whole) (TP X pins σ Q) X.xe s
theorem PW.pt {X : Cx} {e : Expr} {t : TT} (h : PW X e t) : PT X e t := h _
/-- an argument list (no star), from the left -/
def PA (X : Cx) (es : List Expr) (t : TA) : Prop :=
  ∀ (pos : Pos) (pins : List (Addr × Obj)) (s : Shared) (σ : St) (H : Hp) (Q : List V → Hp → Prop), Inv X pins σ H s → t σ H Q → wpAny (model X.prog X.w) X.A (spliced (backTo pos (starEach es X.env))) (AP X pins σ Q) X.xe s
def PS (X : Cx) (st : Stmt) (t : TS) : Prop :=
  ∀ (pins : List (Addr × Obj)) (s : Shared) (σ : St) (H : Hp) (D : Ends), Inv X pins σ H s → t D σ H → wpAny (model X.prog X.w) X.A (exec st X.env) (SP X pins D) X.xe s
def PSs (X : Cx) (st : List Stmt) (t : TS) : Prop :=
  ∀ (pins : List (Addr × Obj)) (s : Shared) (σ : St) (H : Hp) (D : Ends), Inv X pins σ H s → t D σ H → wpAny (model X.prog X.w) X.A (execs st X.env) (SP X pins D) X.xe s
/-- weaken the end -/
theorem thn {α : Type} {t : Sem α} {Q Q' : α → Shared → Prop} {M : Model} {A : Around} {E : Value → Shared → Prop} {s : Shared} (h : wpAny M A t Q E s) (hQ : ∀ a s, Q a s → Q' a s) : wpAny M A t Q' E s := wpAny_mono h hQ fun _ _ x => x
end L2

namespace L2
open PySem PySem.Spec PyProof.Rows
section
variable {X : Cx}

/-! ### names and constants -/
def tVar (i : Nat) : TE := fun σ H Q => ∃ v, σ[i]? = some (some v) ∧ Q v H
def tC (v : V) : TE := fun _ H Q => Q v H
theorem pe_var {i : Nat} {x : Str} {pos : Pos} (hN : X.N[i]? = some x) (hv : Vis X.env.scope x) (hd : (x == ("__debug__" : Str)) = false := by decide) (hcd : (x == ("__classdict__" : Str)) = false := by decide) : PE X (.Name x pos) (tVar i) := by
  intro pins s σ H Q I h
  obtain ⟨v, e, h⟩ := h
  obtain ⟨m, hn, hl⟩ := I.loc
  obtain ⟨u, r, l⟩ := hl i x v hN e hv
  have fin : EP X pins σ Q u s := ⟨v, H, I, r, h⟩
  rcases l with ⟨hk, hm⟩ | ⟨hk, c, hc, hcell⟩
  · exact wpAny_Name (wpAny_loadName_local I.ok.kind hk hn hm fin) hd
  · rcases hk with hk | hk
    · exact wpAny_Name (wpAny_loadName_cell I.ok.kind hk hc hcell fin) hd
    · exact wpAny_Name (wpAny_loadName_free I.ok.kind hk hc hcell fin hcd) hd
theorem pe_int {i j pos} : PE X (.Constant (.int i) j pos) (tC (.int i)) := fun _ _ _ H _ I h => wpAny_Constant_int ⟨.int i, H, I.tok _, ⟨_, rfl⟩, h⟩
theorem pe_bl {b j pos} : PE X (.Constant (.bool b) j pos) (tC (.bl b)) := fun _ _ _ H _ I h => Constant_bool ⟨.bl b, H, I, rfl, h⟩
theorem pe_str {x j pos} : PE X (.Constant (.str x) j pos) (tC (.str x)) := fun _ _ _ H _ I h => Calls.Constant_str ⟨.str x, H, I.tok _, ⟨_, rfl⟩, h⟩

/-- a global name of the def -/
def Gl (X : Cx) (x : Str) : Prop := X.env.kindOf x = some .globalImplicit
theorem ld_glob {E : Value → Shared → Prop} {pins : List (Addr × Obj)} {s : Shared} {σ : St} {H : Hp} {x : Str} {u : Value} {pos : Pos} {Q : Value → Shared → Prop} (I : Inv X pins σ H s) (hg : Gl X x) (hm : X.mg x = some u) (h : Q u s)
    (hd : (x == ("__debug__" : Str)) = false := by decide) : wpAny (model X.prog X.w) X.A (eval (.Name x pos) X.env) Q E s :=
  Calls.Name_function_global I.ok.kind hg (Calls.loadGlobal_global (by rw [I.ok.glob]; exact I.mod.glob.keeps I.bk) hm h) hd
theorem ld_blt {E : Value → Shared → Prop} {pins : List (Addr × Obj)} {s : Shared} {σ : St} {H : Hp} {x : Str} {u : Value} {pos : Pos} {Q : Value → Shared → Prop} (I : Inv X pins σ H s) (hg : Gl X x) (hm : X.mg x = none) (hv : bootBuiltins x = some u) (h : Q u s)
    (hn : x ≠ "__name__" := by decide) (hd : (x == ("__debug__" : Str)) = false := by decide) : wpAny (model X.prog X.w) X.A (eval (.Name x pos) X.env) Q E s := by
  obtain ⟨mb, h1, h2⟩ := I.mod.blt
  exact Calls.Name_function_global I.ok.kind hg (Calls.loadGlobal_builtin (by rw [I.ok.glob]; exact I.mod.glob.keeps I.bk) hm (by rw [I.ok.blt]; exact h1.keeps I.bk) ((h2 x hn).trans hv) h) hd
/-- a module's constant, a class, a function, as a value -/
theorem pe_glob {x : Str} {v : V} {u : Value} {pos : Pos} (hg : Gl X x) (hm : X.mg x = some u) (r : RelV v u) (hd : (x == ("__debug__" : Str)) = false := by decide) : PE X (.Name x pos) (tC v) :=
  fun _ _ _ H _ I h => ld_glob I hg hm ⟨v, H, I, r, h⟩ hd
theorem pe_bltn {x : Str} {v : V} {u : Value} {pos : Pos} (hg : Gl X x) (hm : X.mg x = none) (hv : bootBuiltins x = some u) (r : RelV v u) (hn : x ≠ "__name__" := by decide) (hd : (x == ("__debug__" : Str)) = false := by decide) : PE X (.Name x pos) (tC v) :=
  fun _ _ _ H _ I h => ld_blt I hg hm hv ⟨v, H, I, r, h⟩ hn hd

/-! ### arithmetic -/
/-- two ints -/
def t2I (ta tb : TE) (k : Int → Int → Hp → Prop) : St → Hp → Prop := fun σ H => ta σ H fun x H1 => tb σ H1 fun y H2 => ∃ i j, x = .int i ∧ y = .int j ∧ k i j H2
def tAdd (ta tb : TE) : TE := fun σ H Q => t2I ta tb (fun i j H2 => Q (.int (i + j)) H2) σ H
def tSub (ta tb : TE) : TE := fun σ H Q => t2I ta tb (fun i j H2 => Q (.int (i - j)) H2) σ H
/-- the left factor below 2^64 -/
def tMul (ta tb : TE) : TE := fun σ H Q => t2I ta tb (fun i j H2 => (-(2 ^ 64) < i ∧ i < 2 ^ 64) ∧ Q (.int (i * j)) H2) σ H
variable {a b : Expr} {ta tb : TE} {pos : Pos}
/-! ### comparisons -/
def PC (X : Cx) (op : CmpOp) (a b : Expr) (t : TE) : Prop :=
  ∀ (pins : List (Addr × Obj)) (s : Shared) (σ : St) (H : Hp) (Q : VK), Inv X pins σ H s → t σ H Q →
    wpAny (model X.prog X.w) X.A (eval a X.env) (fun v s₁ => wpAny (model X.prog X.w) X.A (eval b X.env) (fun u s₂ => wpAny (model X.prog X.w) X.A (compareOp op v u) (EP X pins σ Q) X.xe s₂) X.xe s₁) X.xe s
def tCmp (p : Int → Int → Bool) (ta tb : TE) : TE := fun σ H Q => t2I ta tb (fun i j H2 => Q (.bl (p i j)) H2) σ H
abbrev tLt : TE → TE → TE := tCmp fun i j => decide (i < j)
abbrev tLe : TE → TE → TE := tCmp fun i j => decide (i ≤ j)
abbrev tGt : TE → TE → TE := tCmp fun i j => decide (j < i)
abbrev tGe : TE → TE → TE := tCmp fun i j => decide (j ≤ i)
abbrev tEqI : TE → TE → TE := tCmp fun i j => decide (i = j)
abbrev tNeI : TE → TE → TE := tCmp fun i j => !decide (i = j)
/-- is None -/
def tIsN (ta : TE) : TE := fun σ H Q => ta σ H fun x H1 => Q (.bl (decide (x = .non))) H1
def tNotN (ta : TE) : TE := fun σ H Q => ta σ H fun x H1 => Q (.bl (!decide (x = .non))) H1
/-- a comparison as a value, as a test -/
def tB (t : TE) : TT := fun σ H Q => t σ H fun x H1 => ∃ c, x = .bl c ∧ Q c H1
/-- an expression whose value is a bool, as a test -/
theorem pt_val {e : Expr} {t : TE} (h : PE X e t) (he : ∀ whole, isTrue e X.env whole = (do let v ← whole; standAt e.pos; holding [v] (truthy v)) := by intro _; rfl) : PT X e (tB t) := by
  intro pins s σ H Q I hw
  refine isTrue_plain (thn (h pins s σ H _ I hw) fun v s1 ⟨x, H1, I1, r1, q1⟩ => ?_) (he _)
  obtain ⟨d, rfl, q⟩ := q1
  cases r1
  exact wpAny_truthy_bool ⟨H1, I1, q⟩

/-! ### and, or, not -/
variable {tA tB' : TT} {rest : List Expr}
def tAnd (t u : TT) : TT := fun σ H Q => t σ H fun c H1 => if c = true then u σ H1 Q else Q false H1
def tOr (t u : TT) : TT := fun σ H Q => t σ H fun c H1 => if c = true then Q true H1 else u σ H1 Q
def tNot (t : TT) : TT := fun σ H Q => t σ H fun c H1 => Q (!c) H1
theorem pw_or1 (ha : PT X a tA) : PW X (.BoolOp .Or [a] pos) tA := by
  intro wh pins s σ H Q I h
  refine isTrue_or (thn (ha pins s σ H Q I h) fun c s1 e => ?_)
  cases c with
  | false => exact isTrue_or_nil e
  | true => exact e
theorem pw_or (ha : PT X a tA) (hb : PW X (.BoolOp .Or (b :: rest) pos) tB') : PW X (.BoolOp .Or (a :: b :: rest) pos) (tOr tA tB') := by
  intro wh pins s σ H Q I h
  refine isTrue_or (thn (ha pins s σ H _ I h) fun c s1 ⟨H1, I1, q1⟩ => ?_)
  cases c with
  | true => exact ⟨H1, I1, q1⟩
  | false => exact hb wh pins s1 σ H1 Q I1 q1
theorem pt_not (ha : PT X a tA) : PT X (.UnaryOp .Not a pos) (tNot tA) := by
  intro pins s σ H Q I h
  exact isTrue_not (ha pins s σ H (fun c H1 => Q (!c) H1) I h)
/-- .. as values (bools) -/
def tAndV (ta tb : TE) : TE := fun σ H Q => ta σ H fun x H1 => ∃ c, x = .bl c ∧ if c = true then tb σ H1 Q else Q (.bl false) H1
def tOrV (ta tb : TE) : TE := fun σ H Q => ta σ H fun x H1 => ∃ c, x = .bl c ∧ if c = true then Q (.bl true) H1 else tb σ H1 Q
def tNotV (ta : TE) : TE := fun σ H Q => ta σ H fun x H1 => ∃ c, x = .bl c ∧ Q (.bl (!c)) H1
theorem pe_one {op} {t : TE} (h : PE X a t) : PE X (.BoolOp op [a] pos) t := fun pins s σ H Q I hw => BoolOp_one (h pins s σ H Q I hw)
theorem pe_and (ha : PE X a ta) (hb : PE X (.BoolOp .And (b :: rest) pos) tb) : PE X (.BoolOp .And (a :: b :: rest) pos) (tAndV ta tb) := by
  intro pins s σ H Q I h
  refine BoolOp_and (thn (ha pins s σ H _ I h) fun v s1 ⟨x, H1, I1, r1, q1⟩ => ?_)
  obtain ⟨c, rfl, q1⟩ := q1
  cases r1
  refine wpAny_truthy_bool ?_
  cases c with
  | true => exact hb pins s1 σ H1 Q I1 q1
  | false => exact ⟨.bl false, H1, I1, rfl, q1⟩
theorem pe_or (ha : PE X a ta) (hb : PE X (.BoolOp .Or (b :: rest) pos) tb) : PE X (.BoolOp .Or (a :: b :: rest) pos) (tOrV ta tb) := by
  intro pins s σ H Q I h
  refine BoolOp_or (thn (ha pins s σ H _ I h) fun v s1 ⟨x, H1, I1, r1, q1⟩ => ?_)
  obtain ⟨c, rfl, q1⟩ := q1
  cases r1
  refine wpAny_truthy_bool ?_
  cases c with
  | false => exact hb pins s1 σ H1 Q I1 q1
  | true => exact ⟨.bl true, H1, I1, rfl, q1⟩
theorem pe_not (ha : PE X a ta) : PE X (.UnaryOp .Not a pos) (tNotV ta) := by
  intro pins s σ H Q I h
  refine UnaryOp_ (thn (ha pins s σ H _ I h) fun v s1 ⟨x, H1, I1, r1, q1⟩ => ?_)
  obtain ⟨c, rfl, q1⟩ := q1
  cases r1
  exact not_of (wpAny_truthy_bool ⟨.bl (!c), H1, I1, rfl, q1⟩)
/-- a if t else b -/
def tIf (t : TT) (ta tb : TE) : TE := fun σ H Q => t σ H fun c H1 => if c = true then ta σ H1 Q else tb σ H1 Q
theorem pe_ifExp {c : Expr} (hc : PT X c tA) (ha : PE X a ta) (hb : PE X b tb) : PE X (.IfExp c a b pos) (tIf tA ta tb) := by
  intro pins s σ H Q I h
  refine wpAny_IfExp (thn (hc pins s σ H _ I h) fun d s1 ⟨H1, I1, q1⟩ => ?_)
  cases d with
  | true => exact ha pins s1 σ H1 Q I1 q1
  | false => exact hb pins s1 σ H1 Q I1 q1
end
end L2

namespace L2
open PySem PySem.Spec PyProof.Rows

/-! ### a list, a tuple that is read: tracked, frozen, or an object of the module -/
def SqL (K : PySem.W.Frag) (H : Hp) (a : Addr) (xs : List V) : Prop :=
  Rd H a (.lst xs) ∨
    ∃ (o : Obj) (its : Array Value) (n : Nat), K.lookup a = some o ∧ o.cls = .type "list" ∧ o.dict = none ∧ o.data = .seq its n ∧ its.size ≤ sizeLine ∧ Vals xs its.toList
def SqT (K : PySem.W.Frag) (H : Hp) (a : Addr) (xs : List V) : Prop :=
  Rd H a (.tup xs) ∨
    ∃ (o : Obj) (its : Array Value) (n : Nat), K.lookup a = some o ∧ o.cls = .type "tuple" ∧ o.data = .seq its n ∧ its.size ≤ sizeLine ∧ Vals xs its.toList
def absV : Value → Option V
  | .none => some .non
  | .bool b => some (.bl b)
  | .int i _ => some (.int i)
  | .str x _ => some (.str x)
  | .bytes b _ => some (.byt b)
  | .float b _ => some (.flt b)
  | .ref a => some (.ref a)
  | .type n => some (.ty n)
  | _ => none
theorem RelV.abs {x : V} {u : Value} (r : RelV x u) : absV u = some x := by
  cases x with
  | non => cases r; rfl
  | bl _ => cases r; rfl
  | int _ => obtain ⟨t, rfl⟩ := r; rfl
  | str _ => obtain ⟨t, rfl⟩ := r; rfl
  | byt _ => obtain ⟨t, rfl⟩ := r; rfl
  | flt _ => obtain ⟨t, rfl⟩ := r; rfl
  | ref _ => cases r; rfl
  | ty _ => cases r; rfl
theorem RelV.inj {x y : V} {u : Value} (r : RelV x u) (q : RelV y u) : x = y := Option.some.inj (r.abs.symm.trans q.abs)
theorem Vals.inj : ∀ {xs ys : List V} {us : List Value}, Vals xs us → Vals ys us → xs = ys
  | _, _, _, .nil, .nil => rfl
  | _, _, _, .cons r t, .cons r' t' => by rw [r.inj r', Vals.inj t t']
section
variable {X : Cx} {pins : List (Addr × Obj)} {σ : St} {H : Hp} {s : Shared} {a : Addr} {xs ys : List V}
theorem SqL.of {K : PySem.W.Frag} (h : H a = some (.lst xs)) : SqL K H a xs := .inl (.inl h)
theorem SqT.of {K : PySem.W.Frag} (h : H a = some (.tup xs)) : SqT K H a xs := .inl (.inl h)
theorem Inv.list (I : Inv X pins σ H s) (h : SqL X.K H a xs) : ∃ its : List Value, Vals xs its ∧ PlainL s.heap a its.toArray ∧ xs.length ≤ sizeLine := by
  rcases h with h | ⟨o, its, n, hk, hc, hd, hs, hz, r⟩
  · obtain ⟨z, its, n, r, e⟩ := h.ok I.hok
    exact ⟨its, r, ⟨_, n, e, rfl, rfl, rfl⟩, z⟩
  · refine ⟨its.toList, r, ⟨o, n, I.kIn a o hk, hc, hd, by simpa using hs⟩, ?_⟩
    have e := r.length
    simp only [Array.length_toList] at e
    omega
theorem Inv.tuple (I : Inv X pins σ H s) (h : SqT X.K H a xs) : ∃ its : List Value, Vals xs its ∧ IsTup s.heap a its.toArray ∧ xs.length ≤ sizeLine := by
  rcases h with h | ⟨o, its, n, hk, hc, hs, hz, r⟩
  · obtain ⟨z, its, r, p⟩ := h.ok I.hok
    exact ⟨its, r, p, z⟩
  · refine ⟨its.toList, r, ⟨o, I.kIn a o hk, hc, n, by simpa using hs⟩, ?_⟩
    have e := r.length
    simp only [Array.length_toList] at e
    omega
end

/-! ### another wish about exceptions -/
abbrev Cx.wish (X : Cx) (E : Value → Shared → Prop) : Cx := { X with xe := E }
/-- no exception leaves -/
abbrev Cx.nox (X : Cx) : Cx := X.wish fun _ _ => False
theorem Cx.Ok.wish {X : Cx} (ok : X.Ok) (E : Value → Shared → Prop) : (X.wish E).Ok :=
  ⟨ok.mod, ok.kind, ok.glob, ok.blt, ok.above, ok.inj, ok.has, ok.cab, ok.hd, ok.frames, ok.stk, ok.exf, ok.bs, ok.bsz, ok.noex, ok.exfs, ok.funs, ok.frf⟩
theorem Cx.Ok.unwish {X : Cx} {E : Value → Shared → Prop} (ok : (X.wish E).Ok) : X.Ok :=
  ⟨ok.mod, ok.kind, ok.glob, ok.blt, ok.above, ok.inj, ok.has, ok.cab, ok.hd, ok.frames, ok.stk, ok.exf, ok.bs, ok.bsz, ok.noex, ok.exfs, ok.funs, ok.frf⟩
section
variable {X : Cx} {pins : List (Addr × Obj)} {σ : St} {H : Hp} {s : Shared} {E : Value → Shared → Prop}
theorem Inv.wish (I : Inv X pins σ H s) (E : Value → Shared → Prop) : Inv (X.wish E) pins σ H s := ⟨I.ok.wish E, I.os, I.bare, I.base, I.loc, I.cell, I.free, I.freeC, I.pin, I.hok, I.len⟩
theorem Inv.unwish (I : Inv (X.wish E) pins σ H s) : Inv X pins σ H s := ⟨I.ok.unwish, I.os, I.bare, I.base, I.loc, I.cell, I.free, I.freeC, I.pin, I.hok, I.len⟩
theorem SP.unwish {D : Ends} {f : Flow} {s' : Shared} (h : SP (X.wish E) pins D f s') : SP X pins D f s' := by
  cases f with
  | next => obtain ⟨σ', H', I, q⟩ := h; exact ⟨σ', H', I.unwish, q⟩
  | brk => obtain ⟨σ', H', I, q⟩ := h; exact ⟨σ', H', I.unwish, q⟩
  | cont => obtain ⟨σ', H', I, q⟩ := h; exact ⟨σ', H', I.unwish, q⟩
  | ret u => obtain ⟨v, σ', H', I, r, q⟩ := h; exact ⟨v, σ', H', I.unwish, r, q⟩
theorem PE.nox {e : Expr} {t : TE} (h : PE X.nox e t) : PE X e t := fun pins s σ H Q I hw =>
  wpAny_mono (h pins s σ H Q (I.wish _) hw) (fun _ _ ⟨v, H', I', r, q⟩ => ⟨v, H', I'.unwish, r, q⟩) fun _ _ z => False.elim z
theorem PT.nox {e : Expr} {t : TT} (h : PT X.nox e t) : PT X e t := fun pins s σ H Q I hw =>
  wpAny_mono (h pins s σ H Q (I.wish _) hw) (fun _ _ ⟨H', I', q⟩ => ⟨H', I'.unwish, q⟩) fun _ _ z => False.elim z
theorem PSs.nox {st : List Stmt} {t : TS} (h : PSs X.nox st t) : PSs X st t := fun pins s σ H D I hw =>
  wpAny_mono (h pins s σ H D (I.wish _) hw) (fun _ _ q => q.unwish) fun _ _ z => False.elim z
end

/-! ### blocks and small statements -/
section
variable {X : Cx} {st : Stmt} {rest : List Stmt} {t u : TS} {e : Expr} {te : TE} {pos : Pos}
def tNext : TS := fun D σ H => D.nx σ H
def tSeq (t u : TS) : TS := fun D σ H => t { D with nx := u D } σ H
theorem pss_nil : PSs X [] tNext := fun _ _ σ H _ I h => wpAny_execs_nil ⟨σ, H, I, h⟩
theorem pss_cons (h1 : PS X st t) (h2 : PSs X rest u) : PSs X (st :: rest) (tSeq t u) := by
  intro pins s σ H D I h
  refine wpAny_execs_cons (thn (h1 pins s σ H { D with nx := u D } I h) fun f s1 q => ?_)
  cases f with
  | next =>
    obtain ⟨σ', H', I', q⟩ := q
    exact h2 pins s1 σ' H' D I' q
  | ret v => exact q
  | brk => exact q
  | cont => exact q
theorem pss_one (h1 : PS X st t) : PSs X [st] t := by
  intro pins s σ H D I h
  refine wpAny_execs_cons (thn (h1 pins s σ H D I h) fun f s1 q => ?_)
  cases f with
  | next => exact wpAny_execs_nil q
  | ret v => exact q
  | brk => exact q
  | cont => exact q
def tBreak : TS := fun D σ H => D.bk σ H
def tCont : TS := fun D σ H => D.ct σ H
/-- in a def's body nothing is shown -/
theorem Inv.quiet {pins : List (Addr × Obj)} {σ : St} {H : Hp} {s : Shared} (I : Inv X pins σ H s) : interactive X.env = false := by simp [interactive, I.ok.kind]
/-- an expression whose value is dropped -/
def tDrop (te : TE) : TS := fun D σ H => te σ H fun _ H1 => D.nx σ H1
theorem ps_expr (he : PE X e te) (hs : swapsWith e none pos.line X.env = pure false := by rfl) : PS X (.Expr e pos) (tDrop te) := by
  intro pins s σ H D I h
  exact wpAny_Expr_any (thn (he pins s σ H _ I h) fun v s1 ⟨x, H1, I1, r1, q1⟩ => ⟨σ, H1, I1, q1⟩) I.quiet hs
def tRet (te : TE) : TS := fun D σ H => te σ H D.rt
theorem ps_ret (he : PE X e te) : PS X (.Return (some e) pos) (tRet te) := by
  intro pins s σ H D I h
  exact wpAny_Return_some (thn (he pins s σ H _ I h) fun v s1 ⟨x, H1, I1, r1, q1⟩ => ⟨x, σ, H1, I1, r1, q1⟩)
def tRetN : TS := fun D _ H => D.rt .non H
def tIfS (c : TT) (t u : TS) : TS := fun D σ H => c σ H fun b H1 => if b = true then t D σ H1 else u D σ H1
theorem ps_if {c : Expr} {a b : List Stmt} {tc : TT} (hc : PT X c tc) (ha : PSs X a t) (hb : PSs X b u) : PS X (.If c a b pos) (tIfS tc t u) := by
  intro pins s σ H D I h
  refine wpAny_If (thn (hc pins s σ H _ I h) fun d s1 ⟨H1, I1, q1⟩ => ?_)
  cases d with
  | true => exact ha pins s1 σ H1 D I1 q1
  | false => exact hb pins s1 σ H1 D I1 q1
/-- code that the proof never comes to -/
def tNever : TS := fun _ _ _ => False
end

/-! ### targets -/
abbrev TG := V → St → Hp → (St → Hp → Prop) → Prop
abbrev TGs := List V → St → Hp → (St → Hp → Prop) → Prop
def PG (X : Cx) (target : Expr) (t : TG) : Prop :=
  ∀ (pins : List (Addr × Obj)) (s : Shared) (σ : St) (H : Hp) (v : V) (u : Value) (Q : St → Hp → Prop), Inv X pins σ H s → RelV v u → t v σ H Q →
    wpAny (model X.prog X.w) X.A (assign target X.env u) (fun _ s' => ∃ σ' H', Inv X pins σ' H' s' ∧ Q σ' H') X.xe s
/-- several targets, one after another -/
def PGs (X : Cx) (ts : List Expr) (t : TGs) : Prop :=
  ∀ (pins : List (Addr × Obj)) (s : Shared) (σ : St) (H : Hp) (vs : List V) (us : List Value) (Q : St → Hp → Prop), Inv X pins σ H s → Vals vs us → t vs σ H Q →
    wpAny (model X.prog X.w) X.A (assignInOrder ((assignEach ts X.env).map (·.2)) us) (fun _ s' => ∃ σ' H', Inv X pins σ' H' s' ∧ Q σ' H') X.xe s
/-- o[i] = v, by values -/
abbrev TSet := V → V → V → Hp → (Hp → Prop) → Prop
def PSet (X : Cx) (t : TSet) : Prop :=
  ∀ (pins : List (Addr × Obj)) (s : Shared) (σ : St) (H : Hp) (o i v : V) (ov iv u : Value) (Q : Hp → Prop), Inv X pins σ H s → RelV o ov → RelV i iv → RelV v u → t o i v H Q →
    wpAny (model X.prog X.w) X.A (setItem ov iv u) (fun _ s' => ∃ H', Inv X pins σ H' s' ∧ Q H') X.xe s
/-- a op= b, by values -/
abbrev TIp := V → V → Hp → VK → Prop
def PIp (X : Cx) (op : Operator) (t : TIp) : Prop :=
  ∀ (pins : List (Addr × Obj)) (s : Shared) (σ : St) (H : Hp) (x y : V) (v u : Value) (Q : VK), Inv X pins σ H s → RelV x v → RelV y u → t x y H Q →
    wpAny (model X.prog X.w) X.A (inplaceOp op v u) (EP X pins σ Q) X.xe s
section
variable {X : Cx} {pos : Pos}
def gName (i : Nat) : TG := fun v σ H Q => Q (σ.set i (some v)) H
theorem pg_name {i : Nat} {x : Str} (hN : X.N.Nodup) (hi : X.N[i]? = some x) (hx : Loc X.env.scope x) (hf : X.fn x = true ∨ X.env.scope.names.lookup x = some .local := by first | exact .inl rfl | exact .inr rfl | assumption) : PG X (.Name x pos) (gName i) := by
  intro pins s σ H v u Q I r h
  exact wpAny_assign_Name (store_ok I hN hi hx r (fun s' I' => ⟨_, H, I', h⟩) hf)
def gNil : TGs := fun vs σ H Q => vs = [] ∧ Q σ H
def gCons (t : TG) (u : TGs) : TGs := fun vs σ H Q => ∃ v r, vs = v :: r ∧ t v σ H fun σ' H' => u r σ' H' Q
/-- (a, b, ..) = a tuple of that length -/
def gTup (K : PySem.W.Frag) (n : Nat) (t : TGs) : TG := fun v σ H Q => ∃ a xs, v = .ref a ∧ SqT K H a xs ∧ xs.length = n ∧ t xs σ H Q
/-- o[i] = .. -/
def gSub (to ti : TE) (t : TSet) : TG := fun v σ H Q => to σ H fun o H1 => ti σ H1 fun i H2 => t o i v H2 fun H3 => Q σ H3
/-- target = value -/
def tAsg (te : TE) (g : TG) : TS := fun D σ H => te σ H fun x H1 => g x σ H1 D.nx
/-- name = value -/
theorem ps_set {i : Nat} {x : Str} {e : Expr} {te : TE} {pos' : Pos} (hN : X.N.Nodup) (hi : X.N[i]? = some x) (hx : Loc X.env.scope x) (he : PE X e te) (hs : swapsWith e (some (.Name x pos')) pos.line X.env = pure false := by rfl) (hf : X.fn x = true ∨ X.env.scope.names.lookup x = some .local := by first | exact .inl rfl | exact .inr rfl | assumption) :
    PS X (.Assign [.Name x pos'] e pos) (tAsg te (gName i)) := by
  intro pins s σ H D I h
  refine wpAny_Assign_Name (thn (he pins s σ H _ I h) fun v s1 ⟨y, H1, I1, r1, q1⟩ => ?_) hs
  exact store_ok I1 hN hi hx r1 (fun s2 I2 => ⟨_, H1, I2, q1⟩) hf
/-- a, b = x, y with plain local names: stored from the right; the pair itself is not tracked (the opening rows as in PyProof/Rows/TupAssign.lean:23) -/
def tPar (i j : Nat) (ta : TA) : TS := fun D σ H => ta σ H fun vs H1 => ∃ v w, vs = [v, w] ∧ D.nx ((σ.set i (some v)).set j (some w)) H1
/-- name op= e -/
def tAug (i : Nat) (te : TE) (ti : TIp) : TS := fun D σ H => ∃ x, σ[i]? = some (some x) ∧ te σ H fun y H1 => ti x y H1 fun z H2 => D.nx (σ.set i (some z)) H2
/-- o[i] op= e -/
def tAugS (to ti te : TE) (tget : V → V → Hp → VK → Prop) (tip : TIp) (tset : TSet) : TS := fun D σ H => to σ H fun o H1 => ti σ H1 fun i H2 => tget o i H2 fun x H3 => te σ H3 fun y H4 => tip x y H4 fun z H5 => tset o i z H5 fun H6 => D.nx σ H6
/-- o[i], by values -/
def PGet (X : Cx) (t : V → V → Hp → VK → Prop) : Prop :=
  ∀ (pins : List (Addr × Obj)) (s : Shared) (σ : St) (H : Hp) (o i : V) (ov iv : Value) (Q : VK), Inv X pins σ H s → RelV o ov → RelV i iv → t o i H Q →
    wpAny (model X.prog X.w) X.A (getItem ov iv) (EP X pins σ Q) X.xe s
/-- ints -/
def ipI (f : Int → Int → Int) : TIp := fun x y H Q => ∃ i j, x = .int i ∧ y = .int j ∧ Q (.int (f i j)) H
end

/-! ### while -/
section
variable {X : Cx} {pos : Pos}
/-- the invariant W with its measure -/
def tWhile (c : TT) (tb : TS) : TS := fun D σ H => ∃ W : Nat → St → Hp → Prop, (∃ m, W m σ H) ∧ ∀ m σ H, W m σ H →
  c σ H fun b H1 => if b = true then ∃ N : St → Hp → Prop, (∀ σ' H', N σ' H' → ∃ m', m' < m ∧ W m' σ' H') ∧ tb { D with nx := N, ct := N, bk := D.nx } σ H1 else D.nx σ H1
theorem ps_while {c : Expr} {body : List Stmt} {tc : TT} {tb : TS} (hp : PassesOwn (model X.prog X.w) X.A X.env X.xe) (hc : PT X c tc) (hb : PSs X body tb) : PS X (.While c body [] pos) (tWhile tc tb) := by
  intro pins s σ H D I h
  obtain ⟨W, ⟨m0, w0⟩, turn⟩ := h
  refine wpAny_While (codeAny_whileLoop (fun n s' => ∃ σ' H', Inv X pins σ' H' s' ∧ W n σ' H') ?_ m0 ⟨σ, H, I, w0⟩)
  rintro n s1 ⟨σ1, H1, I1, w1⟩
  refine wpAny_passesOwn hp (thn (hc pins s1 σ1 H1 _ I1 (turn n σ1 H1 w1)) fun b s2 ⟨H2, I2, q2⟩ => ?_)
  cases b with
  | true =>
    obtain ⟨N, hN, q2⟩ := q2
    rw [if_pos rfl]
    refine wpAny_passesOwn hp (thn (hb pins s2 σ1 H2 _ I2 q2) fun f s3 q3 => ?_)
    cases f with
    | next =>
      obtain ⟨σ3, H3, I3, n3⟩ := q3
      obtain ⟨m', hm, w3⟩ := hN σ3 H3 n3
      exact ⟨m', hm, σ3, H3, I3, w3⟩
    | cont =>
      obtain ⟨σ3, H3, I3, n3⟩ := q3
      obtain ⟨m', hm, w3⟩ := hN σ3 H3 n3
      exact ⟨m', hm, σ3, H3, I3, w3⟩
    | brk => exact q3
    | ret v => exact q3
  | false =>
    rw [if_neg Bool.false_ne_true]
    exact wpAny_execs_nil ⟨σ1, H2, I2, q2⟩
end

/-! ### what a loop or a comprehension walks -/
/-- at turn i: it yields x (the heap may grow), or it stops -/
structure It where
  go : Nat → Hp → Prop
  yld : Nat → Hp → V → Hp → Prop
  stop : Nat → Hp → Prop
/-- the iterator's own objects may turn: they are not the frame's, not pinned, younger than the entry (or a comprehension's own) -/
def FpOk (X : Cx) (pins : List (Addr × Obj)) (H : Hp) (b : Addr) : Prop :=
  H b = none ∧ b ≠ X.env.locals ∧ b ∉ X.fs ∧ (b ∈ X.ex ∨ X.s₀.heap.objs.size ≤ b) ∧ (∀ x c, X.env.cells.lookup x = some c → c ≠ b) ∧ ∀ p ∈ X.pn ++ pins, p.1 ≠ b
theorem Inv.fpOk {X : Cx} {pins : List (Addr × Obj)} {σ : St} {H H' : Hp} {s : Shared} {b : Addr} (I : Inv X pins σ H s) (hb : s.heap.objs.size ≤ b) (hn : H' b = none) : FpOk X pins H' b := by
  refine ⟨hn, Nat.ne_of_gt (Nat.lt_of_lt_of_le I.lt hb), I.nofs hb, .inr (Nat.le_trans I.sz hb), fun x c e z => ?_, fun p hp z => ?_⟩
  · obtain ⟨v, q⟩ := I.cell x c e
    exact absurd (Nat.lt_of_lt_of_le q.lt (by rw [z]; exact hb)) (Nat.lt_irrefl _)
  · exact absurd (Nat.lt_of_lt_of_le (Heap.lt_size (I.pin p hp).1) (by rw [z]; exact hb)) (Nat.lt_irrefl _)
structure Turn (P : Program) (w : World) (K : PySem.W.Frag) (tg : Expr) (J : It) (fp : List Addr) (it : Addr) (tn : Nat → Heap → Prop) : Prop where
  mem : it ∈ fp
  obj : ∀ i h, tn i h → ∀ b ∈ fp, ∃ o, h.get? b = some o ∧ ∀ v, o.data ≠ .cell v
  keep : ∀ i h h', tn i h → (∀ b ∈ fp, ∀ o, h.get? b = some o → h'.get? b = some o) → tn i h'
  item : ∀ (X : Cx), X.prog = P → X.w = w → X.K = K → X.calm = true → ∀ (i : Nat) (pins : List (Addr × Obj)) (s : Shared) (σ : St) (H : Hp) (E : Value → Shared → Prop), Inv X pins σ H s → (∀ b ∈ fp, FpOk X pins H b) → tn i s.heap → J.go i H →
    wpAny (model P w) X.A (pyNext (.ref it)) (fun r s1 => ∃ u, r = some u ∧
      wpAny (model P w) X.A (letOwnedTupleGo tg (.ref it) u) (fun _ s2 => ∃ x H', Inv X pins σ H' s2 ∧ RelV x u ∧ J.yld i H x H' ∧ tn (i + 1) s2.heap ∧ ∀ b ∈ fp, H' b = none) E s1) E s
  done : ∀ (X : Cx), X.prog = P → X.w = w → X.K = K → X.calm = true → ∀ (i : Nat) (pins : List (Addr × Obj)) (s : Shared) (σ : St) (H : Hp) (E : Value → Shared → Prop), Inv X pins σ H s → (∀ b ∈ fp, FpOk X pins H b) → tn i s.heap → J.stop i H →
    wpAny (model P w) X.A (pyNext (.ref it)) (fun r s1 => r = none ∧ Inv X pins σ H s1) E s
  self : ∀ (A : Around) (i : Nat) (s : Shared) (Q : Value → Shared → Prop) (E : Value → Shared → Prop), tn i s.heap → Q (.ref it) s → wpAny (model P w) A (pyIter (.ref it)) Q E s
abbrev TI := St → Hp → (It → Hp → Prop) → Prop
/-- an iterator has come -/
def PIE (X : Cx) (pins : List (Addr × Obj)) (σ : St) (tg : Expr) (R : It → Hp → Prop) (itv : Value) (s2 : Shared) : Prop :=
  ∃ (it : Addr) (fp : List Addr) (tn : Nat → Heap → Prop) (J : It) (H' : Hp), itv = .ref it ∧ Inv X pins σ H' s2 ∧ Turn X.prog X.w X.K tg J fp it tn ∧ tn 0 s2.heap ∧ (∀ b ∈ fp, FpOk X pins H' b) ∧ R J H'
def PI (X : Cx) (tg iter : Expr) (wi : TI) : Prop :=
  ∀ (pins : List (Addr × Obj)) (s : Shared) (σ : St) (H : Hp) (R : It → Hp → Prop), Inv X pins σ H s → wi σ H R →
    wpAny (model X.prog X.w) X.A (eval iter X.env) (fun v s1 => wpAny (model X.prog X.w) X.A (pyIter v) (PIE X pins σ tg R) X.xe s1) X.xe s

/-- the step ahead of the store is nothing for an iterator that keeps no tuple -/
theorem go_of {M : Model} {A : Around} {E : Value → Shared → Prop} {s : Shared} {tg : Expr} {it : Addr} {u : Value} {o : Obj} {n : String} {vs : Array Value} {Q : Unit → Shared → Prop} (ho : s.heap.get? it = some o) (hc : o.cls = .type n) (hd : o.data = .fields vs)
    (hn : ["enumerate", "zip", "dict_itemiterator", "dict_reverseitemiterator", "odict_iterator", "itertools.zip_longest", "itertools.pairwise"].contains n = false) (hQ : Q () s) : wpAny M A (letOwnedTupleGo tg (.ref it) u) Q E s := by
  unfold letOwnedTupleGo
  cases tg <;> first
    | exact wpAny_pure hQ
    | (cases u <;> first
        | exact wpAny_pure hQ
        | (refine wpAny_bind (wpAny_load ho ?_)
           rw [hc, hd]
           show wpAny M A (if (["enumerate", "zip", "dict_itemiterator", "dict_reverseitemiterator", "odict_iterator", "itertools.zip_longest", "itertools.pairwise"].contains n && vs[0]? == some (rawInt _)) = true then _ else _) Q E s
           rw [if_neg (by intro h; rw [hn, Bool.false_and] at h; cases h)]
           exact wpAny_pure hQ))

/-- the list at a, as it stands at each turn (a loop may append to it) -/
def Itl (K : PySem.W.Frag) (a : Addr) : It :=
  ⟨fun i H => ∃ xs x, SqL K H a xs ∧ xs[i]? = some x, fun i H x H' => H' = H ∧ ∀ xs, SqL K H a xs → xs[i]? = some x, fun i H => ∃ xs, SqL K H a xs ∧ xs.length ≤ i⟩
def Itt (K : PySem.W.Frag) (a : Addr) : It :=
  ⟨fun i H => ∃ xs x, SqT K H a xs ∧ xs[i]? = some x, fun i H x H' => H' = H ∧ ∀ xs, SqT K H a xs → xs[i]? = some x, fun i H => ∃ xs, SqT K H a xs ∧ xs.length ≤ i⟩
/-- lo, lo + 1, .. (n of them) -/
def Itr (lo : Int) (n : Nat) : It := ⟨fun i _ => i < n, fun i H x H' => H' = H ∧ x = .int (lo + i), fun i _ => n ≤ i⟩
end L2

namespace L2
open PySem PySem.Spec PyProof.Rows
section
variable {X : Cx} {tg : Expr}
def iList (K : PySem.W.Frag) (tl : TE) : TI := fun σ H R => tl σ H fun x H1 => ∃ a, x = .ref a ∧ (∃ xs, SqL K H1 a xs) ∧ R (Itl K a) H1
def iTup (K : PySem.W.Frag) (tl : TE) : TI := fun σ H R => tl σ H fun x H1 => ∃ a, x = .ref a ∧ (∃ xs, SqT K H1 a xs) ∧ R (Itt K a) H1
def iRng1 (ta : TA) : TI := fun σ H R => ta σ H fun vs H1 => ∃ j : Int, vs = [.int j] ∧ -(2 ^ 62) ≤ j ∧ j < 2 ^ 62 ∧ R (Itr 0 j.toNat) H1
def iRng2 (ta : TA) : TI := fun σ H R => ta σ H fun vs H1 => ∃ i j : Int, vs = [.int i, .int j] ∧ (-(2 ^ 62) ≤ i ∧ i < 2 ^ 62 ∧ -(2 ^ 62) ≤ j ∧ j < 2 ^ 62) ∧ R (Itr i (j - i).toNat) H1
/-! ### for -/
/-- W: the invariant by the turn and a measure; N: what the body is to reach -/
def tFor (wi : TI) (g : TG) (tb : TS) : TS := fun D σ H => wi σ H fun J H1 => ∃ W : Nat → Nat → St → Hp → Prop, (∃ m, W 0 m σ H1) ∧ ∀ i m σ H, W i m σ H →
  (J.stop i H ∧ D.nx σ H) ∨ (J.go i H ∧ ∃ N : St → Hp → Prop, (∀ σ' H', N σ' H' → ∃ m', m' < m ∧ W (i + 1) m' σ' H') ∧ ∀ x H', J.yld i H x H' → g x σ H' fun σ2 H2 => tb { D with nx := N, ct := N, bk := D.nx } σ2 H2)
/-- the records at fp as they stand -/
def pinsAt (fp : List Addr) (h : Heap) : List (Addr × Obj) := fp.filterMap fun b => (h.get? b).map fun o => (b, o)
theorem mem_pinsAt {fp : List Addr} {h : Heap} {b : Addr} {o : Obj} (hb : b ∈ fp) (e : h.get? b = some o) : (b, o) ∈ pinsAt fp h := List.mem_filterMap.mpr ⟨b, hb, by rw [e]; rfl⟩
theorem of_pinsAt {fp : List Addr} {h : Heap} {p : Addr × Obj} (hp : p ∈ pinsAt fp h) : p.1 ∈ fp ∧ h.get? p.1 = some p.2 := by
  obtain ⟨b, hb, e⟩ := List.mem_filterMap.mp hp
  cases q : h.get? b with
  | none => rw [q] at e; cases e
  | some o =>
    rw [q] at e
    have e' : (b, o) = p := Option.some.inj e
    subst e'
    exact ⟨hb, q⟩
theorem Inv.pinned {pins : List (Addr × Obj)} {σ : St} {H : Hp} {s : Shared} {fp : List Addr} (I : Inv X pins σ H s) (hf : ∀ b ∈ fp, FpOk X pins H b) (ho : ∀ b ∈ fp, ∃ o, s.heap.get? b = some o ∧ ∀ v, o.data ≠ .cell v) : Inv X (pins ++ pinsAt fp s.heap) σ H s :=
  I.pins_of fun p hp => (List.mem_append.mp hp).elim (fun z => I.pin p (List.mem_append_right _ z)) fun z => by
    obtain ⟨hb, e⟩ := of_pinsAt z
    obtain ⟨f0, f1, f2, _⟩ := hf p.1 hb
    obtain ⟨o, e', d⟩ := ho p.1 hb
    rw [e] at e'; cases e'
    exact ⟨e, f0, f1, f2, d⟩
theorem Inv.unpinned {pins pl : List (Addr × Obj)} {σ : St} {H : Hp} {s : Shared} (I : Inv X (pins ++ pl) σ H s) : Inv X pins σ H s := I.pins_of fun p hp => I.pin p (List.mem_append_right _ (List.mem_append_left _ hp))
end

/-! ### the forms one uses -/
end L2

namespace L2
open PySem PySem.Spec PyProof.Rows

abbrev R2 := V → V → Hp → VK → Prop
/-- a two-place operation on values: f is binaryOp op, inplaceOp op or compareOp op -/
def OpR (X : Cx) (f : Value → Value → Sem Value) (r : R2) : Prop :=
  ∀ (pins : List (Addr × Obj)) (s : Shared) (σ : St) (H : Hp) (x y : V) (v u : Value) (Q : VK), Inv X pins σ H s → RelV x v → RelV y u → r x y H Q →
    wpAny (model X.prog X.w) X.A (f v u) (EP X pins σ Q) X.xe s
/-- a one-place operation -/
def UnR (X : Cx) (f : Value → Sem Value) (r : V → Hp → VK → Prop) : Prop :=
  ∀ (pins : List (Addr × Obj)) (s : Shared) (σ : St) (H : Hp) (x : V) (v : Value) (Q : VK), Inv X pins σ H s → RelV x v → r x H Q →
    wpAny (model X.prog X.w) X.A (f v) (EP X pins σ Q) X.xe s
/-- a call of a value that is known (a builtin, a type) with values -/
def CallR (X : Cx) (f : Value) (r : List V → Hp → VK → Prop) : Prop :=
  ∀ (pins : List (Addr × Obj)) (s : Shared) (σ : St) (H : Hp) (xs : List V) (us : List Value) (Q : VK), Inv X pins σ H s → Vals xs us → r xs H Q →
    wpAny (model X.prog X.w) X.A (call f us) (EP X pins σ Q) X.xe s
/-- a value's truth -/
def TruR (X : Cx) (r : V → Hp → (Bool → Hp → Prop) → Prop) : Prop :=
  ∀ (pins : List (Addr × Obj)) (s : Shared) (σ : St) (H : Hp) (x : V) (v : Value) (Q : Bool → Hp → Prop), Inv X pins σ H s → RelV x v → r x H Q →
    wpAny (model X.prog X.w) X.A (truthy v) (TP X pins σ Q) X.xe s

def tOp (r : R2) (ta tb : TE) : TE := fun σ H Q => ta σ H fun x H1 => tb σ H1 fun y H2 => r x y H2 Q
def tUn (r : V → Hp → VK → Prop) (ta : TE) : TE := fun σ H Q => ta σ H fun x H1 => r x H1 Q
/-- ints in, under C, and a value out -/
def rI (C : Int → Int → Prop) (g : Int → Int → V) : R2 := fun x y H Q => ∃ i j, x = .int i ∧ y = .int j ∧ C i j ∧ Q (g i j) H
def rI0 (g : Int → Int → V) : R2 := fun x y H Q => ∃ i j, x = .int i ∧ y = .int j ∧ Q (g i j) H
def rU (g : Int → V) : V → Hp → VK → Prop := fun x H Q => ∃ i, x = .int i ∧ Q (g i) H

section
variable {X : Cx} {a b c : Expr} {ta tb tc : TE} {pos : Pos}

theorem binT (ha : PE X a ta) (hb : PE X b tb) {pins : List (Addr × Obj)} {s : Shared} {σ : St} {H : Hp} {R : V → V → Hp → Prop} (I : Inv X pins σ H s)
    (h : ta σ H fun x H1 => tb σ H1 fun y H2 => R x y H2) {Q : Value → Shared → Prop} {f : Value → Value → Sem Value}
    (hf : ∀ v u s2 x y H2, Inv X pins σ H2 s2 → RelV x v → RelV y u → R x y H2 → wpAny (model X.prog X.w) X.A (f v u) Q X.xe s2) :
    wpAny (model X.prog X.w) X.A (eval a X.env) (fun v s₁ => wpAny (model X.prog X.w) X.A (eval b X.env) (fun u s₂ => wpAny (model X.prog X.w) X.A (f v u) Q X.xe s₂) X.xe s₁) X.xe s := by
  refine thn (ha pins s σ H _ I h) fun v s1 ⟨x, H1, I1, r1, q1⟩ => ?_
  refine thn (hb pins s1 σ H1 _ I1 q1) fun u s2 ⟨y, H2, I2, r2, q2⟩ => ?_
  exact hf v u s2 x y H2 I2 r1 r2 q2

theorem pe_op {op : Operator} {r : R2} (ho : OpR X (binaryOp op) r) (ha : PE X a ta) (hb : PE X b tb) : PE X (.BinOp a op b pos) (tOp r ta tb) := by
  intro pins s σ H Q I h
  exact wpAny_BinOp (binT ha hb I h fun v u s2 x y H2 I2 rx ry q => ho pins s2 σ H2 x y v u Q I2 rx ry q)
theorem pe_un {op : UnaryOp} {r : V → Hp → VK → Prop} (ho : UnR X (unaryOp op) r) (ha : PE X a ta) : PE X (.UnaryOp op a pos) (tUn r ta) := by
  intro pins s σ H Q I h
  exact UnaryOp_ (thn (ha pins s σ H _ I h) fun v s1 ⟨x, H1, I1, r1, q1⟩ => ho pins s1 σ H1 x v Q I1 r1 q1)
/-! ### ints -/
theorem opI {f : Value → Value → Sem Value} {C : Int → Int → Prop} {g : Int → Int → Int}
    (rule : ∀ (i j : Int) (t u : Tok) (s : Shared) (Q : Value → Shared → Prop) (E : Value → Shared → Prop), C i j → Q (.int (g i j) s.toks) { s with toks := s.toks + 1 } → wpAny (model X.prog X.w) X.A (f (.int i t) (.int j u)) Q E s) :
    OpR X f (rI C fun i j => .int (g i j)) := by
  intro pins s σ H x y v u Q I rx ry h
  obtain ⟨i, j, rfl, rfl, hc, q⟩ := h
  obtain ⟨t, rfl⟩ := rx
  obtain ⟨t', rfl⟩ := ry
  exact rule i j t t' s _ _ hc ⟨.int (g i j), H, I.tok _, ⟨_, rfl⟩, q⟩
theorem opI0 {f : Value → Value → Sem Value} {g : Int → Int → Int}
    (rule : ∀ (i j : Int) (t u : Tok) (s : Shared) (Q : Value → Shared → Prop) (E : Value → Shared → Prop), Q (.int (g i j) s.toks) { s with toks := s.toks + 1 } → wpAny (model X.prog X.w) X.A (f (.int i t) (.int j u)) Q E s) :
    OpR X f (rI0 fun i j => .int (g i j)) := by
  intro pins s σ H x y v u Q I rx ry h
  obtain ⟨i, j, rfl, rfl, q⟩ := h
  obtain ⟨t, rfl⟩ := rx
  obtain ⟨t', rfl⟩ := ry
  exact rule i j t t' s _ _ ⟨.int (g i j), H, I.tok _, ⟨_, rfl⟩, q⟩
theorem opB0 {f : Value → Value → Sem Value} {g : Int → Int → Bool}
    (rule : ∀ (i j : Int) (t u : Tok) (s : Shared) (Q : Value → Shared → Prop) (E : Value → Shared → Prop), Q (.bool (g i j)) s → wpAny (model X.prog X.w) X.A (f (.int i t) (.int j u)) Q E s) :
    OpR X f (rI0 fun i j => .bl (g i j)) := by
  intro pins s σ H x y v u Q I rx ry h
  obtain ⟨i, j, rfl, rfl, q⟩ := h
  obtain ⟨t, rfl⟩ := rx
  obtain ⟨t', rfl⟩ := ry
  exact rule i j t t' s _ _ ⟨.bl (g i j), H, I, rfl, q⟩

def CDiv (i j : Int) : Prop := 0 < j ∧ j < 1073741824
def CDivN (i j : Int) : Prop := j ≠ 0 ∧ j.natAbs < 1073741824
def CPow (i j : Int) : Prop := 0 ≤ j ∧ j ≤ 1000000 ∧ i.natAbs < 2 ^ 64
def CMul (i j : Int) : Prop := (-(2 ^ 64) < i ∧ i < 2 ^ 64) ∨ (-(2 ^ 64) < j ∧ j < 2 ^ 64)
theorem CMul.ok {i j : Int} (h : CMul i j) : IntMulOk i j := by
  rcases h with ⟨h1, h2⟩ | ⟨h1, h2⟩
  · exact .of_left (intBits_le_64 h1 h2)
  · exact .of_right (intBits_le_64 h1 h2)
theorem op_add : OpR X (binaryOp .Add) (rI0 fun i j => .int (i + j)) := opI0 fun _ _ _ _ _ _ _ q => add_int q
theorem op_sub : OpR X (binaryOp .Sub) (rI0 fun i j => .int (i - j)) := opI0 fun _ _ _ _ _ _ _ q => sub_int q
/-- % by a positive divisor of any size -/
theorem op_mod : OpR X (binaryOp .Mod) (rI (fun _ j => 0 < j) fun i j => .int (i % j)) := opI fun i j _ _ _ _ _ hc q => by
  have h1 : (0 : Int) < j := hc
  exact mod_int' (by omega) (by rw [Int.fmod_eq_emod_of_nonneg i (by omega)]; exact q)
theorem op_pow : OpR X (binaryOp .Pow) (rI CPow fun i j => .int (i ^ j.toNat)) := opI fun _ _ _ _ _ _ _ hc q => pow_int_small hc.1 hc.2.1 hc.2.2 q
theorem unI {f : Value → Sem Value} {g : Int → Int}
    (rule : ∀ (i : Int) (t : Tok) (s : Shared) (Q : Value → Shared → Prop) (E : Value → Shared → Prop), Q (.int (g i) s.toks) { s with toks := s.toks + 1 } → wpAny (model X.prog X.w) X.A (f (.int i t)) Q E s) :
    UnR X f (rU fun i => .int (g i)) := by
  intro pins s σ H x v Q I rx h
  obtain ⟨i, rfl, q⟩ := h
  obtain ⟨t, rfl⟩ := rx
  exact rule i t s _ _ ⟨.int (g i), H, I.tok _, ⟨_, rfl⟩, q⟩
theorem un_neg : UnR X (unaryOp .USub) (rU fun i => .int (-i)) := unI fun _ _ _ _ _ q => neg_int q
/-! ### bools among ints: n += (a < b) -/
end

/-! ### comparisons -/
/-- the scalars that == tells apart as data does -/
def scal : V → V → Bool
  | .non, .non => true | .non, .int _ => true | .int _, .non => true | .non, .bl _ => true | .bl _, .non => true | .non, .str _ => true | .str _, .non => true
  | .int _, .int _ => true | .bl _, .bl _ => true | .str _, .str _ => true | .byt _, .byt _ => true
  | .int _, .str _ => true | .str _, .int _ => true | .bl _, .str _ => true | .str _, .bl _ => true
  | _, _ => false
def rEq : R2 := fun x y H Q => scal x y = true ∧ Q (.bl (decide (x = y))) H
def rNe : R2 := fun x y H Q => scal x y = true ∧ Q (.bl (!decide (x = y))) H

theorem dec_int {i j : Int} : decide (V.int i = V.int j) = (i == j) := by
  rw [Bool.eq_iff_iff]
  simp
theorem dec_bl {i j : Bool} : decide (V.bl i = V.bl j) = (i == j) := by
  rw [Bool.eq_iff_iff]
  simp
theorem dec_str {i j : Str} : decide (V.str i = V.str j) = (i == j) := by
  rw [Bool.eq_iff_iff]
  simp
theorem dec_byt {i j : Array UInt8} : decide (V.byt i = V.byt j) = (i.toList == j.toList) := by
  rw [Bool.eq_iff_iff]
  cases i
  cases j
  simp

section
variable {X : Cx} {a b c : Expr} {ta tb tc : TE} {pos : Pos}
theorem fin_bl {pins : List (Addr × Obj)} {σ : St} {H : Hp} {s : Shared} {Q : VK} {k k' : Bool} (I : Inv X pins σ H s) (q : Q (.bl k) H) (e : k = k') : EP X pins σ Q (.bool k') s := by
  subst e
  exact ⟨.bl k, H, I, rfl, q⟩
theorem op_eq : OpR X (compareOp .Eq) rEq := by
  intro pins s σ H x y v u Q I rx ry h
  obtain ⟨hs, q⟩ := h
  cases x with
  | non =>
    cases rx
    cases y with
    | non => cases ry; exact PySem.EqNone.eq_none_none (fin_bl I q (by simp))
    | bl j => cases ry; exact PySem.EqNone.eq_none_bool (fin_bl I q (by simp))
    | int j => obtain ⟨t', rfl⟩ := ry; exact PySem.EqNone.eq_none_int (fin_bl I q (by simp))
    | str j => obtain ⟨t', rfl⟩ := ry; exact PySem.EqNone.eq_none_str (fin_bl I q (by simp))
    | _ => exact absurd (show false = true from hs) Bool.false_ne_true
  | bl i =>
    cases rx
    cases y with
    | non => cases ry; exact PySem.EqNone.eq_bool_none (fin_bl I q (by simp))
    | bl j => cases ry; exact eq_bool (fin_bl I q dec_bl)
    | str j => obtain ⟨t', rfl⟩ := ry; exact PySem.EqMixed.eq_bool_str (fin_bl I q (by simp))
    | _ => exact absurd (show false = true from hs) Bool.false_ne_true
  | int i =>
    obtain ⟨t, rfl⟩ := rx
    cases y with
    | non => cases ry; exact PySem.EqNone.eq_int_none (fin_bl I q (by simp))
    | int j => obtain ⟨t', rfl⟩ := ry; exact eq_int (fin_bl I q dec_int)
    | str j => obtain ⟨t', rfl⟩ := ry; exact PySem.EqMixed.eq_int_str (fin_bl I q (by simp))
    | _ => exact absurd (show false = true from hs) Bool.false_ne_true
  | str i =>
    obtain ⟨t, rfl⟩ := rx
    cases y with
    | non => cases ry; exact PySem.EqNone.eq_str_none (fin_bl I q (by simp))
    | bl j => cases ry; exact PySem.EqMixed.eq_str_bool (fin_bl I q (by simp))
    | int j => obtain ⟨t', rfl⟩ := ry; exact PySem.EqMixed.eq_str_int (fin_bl I q (by simp))
    | str j => obtain ⟨t', rfl⟩ := ry; exact eq_str (fin_bl I q dec_str)
    | _ => exact absurd (show false = true from hs) Bool.false_ne_true
  | byt i =>
    obtain ⟨t, rfl⟩ := rx
    cases y with
    | byt j => obtain ⟨t', rfl⟩ := ry; exact PySem.W.eq_bytes (fin_bl I q dec_byt)
    | _ => exact absurd (show false = true from hs) Bool.false_ne_true
  | _ => cases y <;> exact absurd (show false = true from hs) Bool.false_ne_true
theorem op_ne : OpR X (compareOp .NotEq) rNe := by
  intro pins s σ H x y v u Q I rx ry h
  obtain ⟨hs, q⟩ := h
  cases x with
  | non =>
    cases rx
    cases y with
    | non => cases ry; exact PySem.EqNone.ne_none_none (fin_bl I q (by simp))
    | bl j => cases ry; exact PySem.EqNone.ne_none_bool (fin_bl I q (by simp))
    | int j => obtain ⟨t', rfl⟩ := ry; exact PySem.EqNone.ne_none_int (fin_bl I q (by simp))
    | str j => obtain ⟨t', rfl⟩ := ry; exact PySem.EqNone.ne_none_str (fin_bl I q (by simp))
    | _ => exact absurd (show false = true from hs) Bool.false_ne_true
  | bl i =>
    cases rx
    cases y with
    | non => cases ry; exact PySem.EqNone.ne_bool_none (fin_bl I q (by simp))
    | bl j => cases ry; exact ne_bool (fin_bl I q (congrArg not dec_bl))
    | str j => obtain ⟨t', rfl⟩ := ry; exact PySem.EqMixed.ne_bool_str (fin_bl I q (by simp))
    | _ => exact absurd (show false = true from hs) Bool.false_ne_true
  | int i =>
    obtain ⟨t, rfl⟩ := rx
    cases y with
    | non => cases ry; exact PySem.EqNone.ne_int_none (fin_bl I q (by simp))
    | int j => obtain ⟨t', rfl⟩ := ry; exact ne_int (fin_bl I q (congrArg not dec_int))
    | str j => obtain ⟨t', rfl⟩ := ry; exact PySem.EqMixed.ne_int_str (fin_bl I q (by simp))
    | _ => exact absurd (show false = true from hs) Bool.false_ne_true
  | str i =>
    obtain ⟨t, rfl⟩ := rx
    cases y with
    | non => cases ry; exact PySem.EqNone.ne_str_none (fin_bl I q (by simp))
    | bl j => cases ry; exact PySem.EqMixed.ne_str_bool (fin_bl I q (by simp))
    | int j => obtain ⟨t', rfl⟩ := ry; exact PySem.EqMixed.ne_str_int (fin_bl I q (by simp))
    | str j => obtain ⟨t', rfl⟩ := ry; exact ne_str (fin_bl I q (congrArg not dec_str))
    | _ => exact absurd (show false = true from hs) Bool.false_ne_true
  | byt i =>
    obtain ⟨t, rfl⟩ := rx
    cases y with
    | byt j => obtain ⟨t', rfl⟩ := ry; exact PySem.W.ne_bytes (fin_bl I q (congrArg not dec_byt))
    | _ => exact absurd (show false = true from hs) Bool.false_ne_true
  | _ => cases y <;> exact absurd (show false = true from hs) Bool.false_ne_true

theorem op_lt : OpR X (compareOp .Lt) (rI0 fun i j => .bl (decide (i < j))) := opB0 fun _ _ _ _ _ _ _ q => lt_int q
theorem op_le : OpR X (compareOp .LtE) (rI0 fun i j => .bl (decide (i ≤ j))) := opB0 fun _ _ _ _ _ _ _ q => le_int q
theorem op_gt : OpR X (compareOp .Gt) (rI0 fun i j => .bl (decide (j < i))) := opB0 fun _ _ _ _ _ _ _ q => gt_int q
theorem op_ge : OpR X (compareOp .GtE) (rI0 fun i j => .bl (decide (j ≤ i))) := opB0 fun _ _ _ _ _ _ _ q => ge_int q
/-- the one string within the other -/
theorem op_in_str : OpR X (compareOp .In) (fun x y H Q => ∃ i j, x = .str i ∧ y = .str j ∧ Q (.bl (!(Builtin.Str.occurrences j i 0 j.length 1).isEmpty)) H) := by
  intro pins s σ H x y v u Q I rx ry h
  obtain ⟨i, j, rfl, rfl, q⟩ := h
  obtain ⟨t, rfl⟩ := rx
  obtain ⟨t', rfl⟩ := ry
  exact in_str (fin_bl I q rfl)

/-- is, is not of two objects that are tracked lists or instances -/
def isObj : HO → Bool
  | .lst _ => true
  | .ins _ _ _ => true
  | _ => false
/-- two rules for one operation: by cases -/
theorem OpR.or {f : Value → Value → Sem Value} {r r' : R2} (h : OpR X f r) (h' : OpR X f r') : OpR X f (fun x y H Q => r x y H Q ∨ r' x y H Q) := by
  intro pins s σ H x y v u Q I rx ry q
  rcases q with q | q
  · exact h pins s σ H x y v u Q I rx ry q
  · exact h' pins s σ H x y v u Q I rx ry q

theorem nomark (b : Expr) {op : CmpOp} (h : op ≠ .In := by decide) (h2 : op ≠ .NotIn := by decide) : behindInMarks op b = false := by
  have e1 : (op == CmpOp.In) = false := by cases op <;> first | rfl | exact absurd rfl h
  have e2 : (op == CmpOp.NotIn) = false := by cases op <;> first | rfl | exact absurd rfl h2
  cases b <;> simp [behindInMarks, e1, e2]
/-- a comparison as a value; hm: nomark b, or (for in, not in) by with_unfolding_all rfl -/
theorem pe_cmpR {op : CmpOp} {r : R2} (ho : OpR X (compareOp op) r) (ha : PE X a ta) (hb : PE X b tb) (hm : behindInMarks op b = false) : PE X (.Compare a [op] [b] pos) (tOp r ta tb) := by
  intro pins s σ H Q I h
  exact wpAny_Compare1 (binT ha hb I h fun v u s2 x y H2 I2 rx ry q => ho pins s2 σ H2 x y v u Q I2 rx ry q) hm
/-- a reading of a value as a test -/
def tTest (t : TE) : TT := fun σ H Q => t σ H fun x H' => ∃ k, x = .bl k ∧ Q k H'
theorem pt_cmpR {op : CmpOp} {r : R2} (ho : OpR X (compareOp op) r) (ha : PE X a ta) (hb : PE X b tb) (hm : behindInMarks op b = false) : PT X (.Compare a [op] [b] pos) (tTest (tOp r ta tb)) := by
  intro pins s σ H Q I h
  refine wpAny_isTrue_Compare1 (thn (ha pins s σ H _ I h) fun v s1 ⟨x, H1, I1, r1, q1⟩ => thn (hb pins s1 σ H1 _ I1 q1) fun u s2 ⟨y, H2, I2, r2, q2⟩ =>
    thn (ho pins s2 σ H2 x y v u _ I2 r1 r2 q2) fun c s3 ⟨z, H3, I3, r3, k, e, q3⟩ => ?_) hm
  subst e
  cases r3
  exact wpAny_truthy_bool ⟨H3, I3, q3⟩
/-- a op1 b op2 c -/
def tChain (r r' : R2) (ta tb tc : TE) : TE := fun σ H Q => ta σ H fun x H1 => tb σ H1 fun y H2 => r x y H2 fun z H3 => ∃ k, z = .bl k ∧
  (if k = true then tc σ H3 fun w' H4 => r' y w' H4 Q else Q (.bl false) H3)
theorem pe_chain {op op' : CmpOp} {r r' : R2} (ho : OpR X (compareOp op) r) (ho' : OpR X (compareOp op') r') (ha : PE X a ta) (hb : PE X b tb) (hc : PE X c tc)
    (hm : lastMarks [op, op'] [b, c] = false := by with_unfolding_all rfl) : PE X (.Compare a [op, op'] [b, c] pos) (tChain r r' ta tb tc) := by
  intro pins s σ H Q I h
  refine Compare_chain (thn (ha pins s σ H _ I h) fun v s1 ⟨x, H1, I1, r1, q1⟩ => chain_link (thn (hb pins s1 σ H1 _ I1 q1) fun u s2 ⟨y, H2, I2, r2, q2⟩ =>
    thn (ho pins s2 σ H2 x y v u _ I2 r1 r2 q2) fun d s3 ⟨z, H3, I3, r3, k, e, q3⟩ => ?_)) hm
  subst e
  cases r3
  refine wpAny_truthy_bool ?_
  cases k with
  | false => exact ite_ff ⟨.bl false, H3, I3, rfl, q3⟩
  | true => exact ite_tt (chain_last (thn (hc pins s3 σ H3 _ I3 q3) fun w' s4 ⟨z', H4, I4, r4, q4⟩ => ho' pins s4 σ H4 y z' u w' Q I4 r2 r4 q4))
/-! ### truth -/
/-- a value's truth by the abstract heap -/
def TruV (K : PySem.W.Frag) (x : V) (H : Hp) (k : Bool) : Prop :=
  match x with
  | .non => k = false
  | .bl b => k = b
  | .int i => k = (i != 0)
  | .str y => y.length ≤ sizeLine ∧ k = ((y.length : Int) != 0)
  | .byt y => y.size ≤ sizeLine ∧ k = ((y.size : Int) != 0)
  | .ref p => (∃ xs, SqL K H p xs ∧ k = !xs.isEmpty) ∨ (∃ xs, SqT K H p xs ∧ k = !xs.isEmpty) ∨ ∃ kvs, H p = some (.dK kvs) ∧ k = !kvs.isEmpty
  | _ => False
theorem line63 : (sizeLine : Nat) < 2 ^ 63 := by rw [sizeLine_eq]; decide
/-! ### strs and bytes -/
theorem op_add_str : OpR X (binaryOp .Add) (fun x y H Q => ∃ i j, x = .str i ∧ y = .str j ∧ i.length + j.length ≤ sizeLine ∧ Q (.str (i ++ j)) H) := by
  intro pins s σ H x y v u Q I rx ry h
  obtain ⟨i, j, rfl, rfl, hz, q⟩ := h
  obtain ⟨t, rfl⟩ := rx
  obtain ⟨t', rfl⟩ := ry
  exact add_str (fun t' tk => ⟨.str (i ++ j), H, I.tok _, ⟨_, rfl⟩, q⟩) hz
def PlainIxT (b : Expr) : Prop := ∀ o i, subscripted b false o i = operate [o, i] (getItem o i)
/-- s[i], 0 ≤ i < len -/
theorem pe_item_str (ha : PE X a ta) (hb : PE X b tb) (hs : PlainIxT b) :
    PE X (.Subscript a b pos) (tOp (fun x y H Q => ∃ z i c, x = .str z ∧ y = .int i ∧ 0 ≤ i ∧ i < 2 ^ 63 ∧ i < z.length ∧ z.cps[i.toNat]? = some c ∧ Q (.str ⟨#[c]⟩) H) ta tb) := by
  intro pins s σ H Q I h
  refine Subscript_ (binT ha hb I h fun v u s2 x y H2 I2 rx ry q => ?_)
  obtain ⟨z, i, c, rfl, rfl, h0, h63, h1, hc, q⟩ := q
  obtain ⟨t, rfl⟩ := rx
  obtain ⟨t', rfl⟩ := ry
  have e : seqIndex? i z.length = some i.toNat := PySem.StrLaws.seqIndex_nonneg h0 h1
  exact tail_any (typeIs_str s2 z t) slot_str_getitem.lookup (getItem_str (c := c) (by
    have e1 : decide (i < -(2 ^ 63 : Int)) = false := decide_eq_false (by omega)
    have e2 : decide (i ≥ 2 ^ 63) = false := decide_eq_false (by omega)
    rw [e1, e2] <;> rfl) (by rw [e]; exact hc) ⟨.str ⟨#[c]⟩, H2, I2.tok _, ⟨_, rfl⟩, q⟩) (hs _ _)
/-! ### scalar builtins, by CallR -/
theorem vals1 {x : V} {us : List Value} (r : Vals [x] us) : ∃ u, us = [u] ∧ RelV x u := by
  cases r with
  | cons r1 r2 => cases r2; exact ⟨_, rfl, r1⟩
theorem vals2 {x y : V} {us : List Value} (r : Vals [x, y] us) : ∃ u w', us = [u, w'] ∧ RelV x u ∧ RelV y w' := by
  cases r with
  | cons r1 r2 =>
    cases r2 with
    | cons r3 r4 => cases r4; exact ⟨_, _, rfl, r1, r3⟩
theorem call_abs : CallR X (.builtin "abs") (fun xs H Q => ∃ i, xs = [.int i] ∧ Q (.int (if i < 0 then -i else i)) H) := by
  intro pins s σ H xs us Q I r h
  obtain ⟨i, rfl, q⟩ := h
  obtain ⟨u, rfl, t, rfl⟩ := vals1 r
  exact call_abs_int fun u tk => ⟨.int (if i < 0 then -i else i), H, I.tok _, ⟨_, rfl⟩, q⟩
/-- len of a str, a bytes, a list, a tuple -/
def LenV (K : PySem.W.Frag) (x : V) (H : Hp) (n : Nat) : Prop :=
  match x with
  | .str y => y.length ≤ sizeLine ∧ n = y.length
  | .byt y => y.size ≤ sizeLine ∧ n = y.size
  | .ref p => (∃ xs, SqL K H p xs ∧ n = xs.length) ∨ ∃ xs, SqT K H p xs ∧ n = xs.length
  | _ => False
end
end L2

namespace L2
open PySem PySem.Spec PyProof.Rows

/-! ### an instance, its attributes a map -/
structure ObjM (h : Heap) (x dx C : Addr) (mA : Str → Option Value) : Prop where
  obj : h.get? x = some (PySem.W.instObj C dx)
  ns : h.Ns1 dx mA
  ne : dx ≠ x

theorem lookIn_ns {h : Heap} {dx : Addr} {mA : Str → Option Value} (n : h.Ns1 dx mA) : ∃ od, h.get? dx = some od ∧ ∀ name, PySem.W.lookIn name od = some (mA name) := by
  obtain ⟨o, es, ep, ho, hd, hk, _, hm⟩ := n
  refine ⟨o, ho, fun name => ?_⟩
  have e := hm name
  unfold nsFind findBy at e
  rw [← Array.find?_toList] at e
  unfold PySem.W.lookIn
  rw [hd]
  dsimp only
  split
  · rename_i y q
    rw [q] at e
    exact congrArg some e
  · rename_i q
    rw [q] at e
    have a : es.toList.any (·.refKey) = false := by
      rw [List.any_eq_false]
      intro y hy
      obtain ⟨z, t, hkey⟩ := hk y (Array.mem_toList_iff.mp hy)
      simp [DictEntry.refKey, hkey]
    have a' : ¬ es.toList.any (·.refKey) = true := by rw [a]; exact Bool.false_ne_true
    rw [if_neg a']
    exact congrArg some e

theorem ObjM.look {h : Heap} {x dx C : Addr} {mA : Str → Option Value} (I : ObjM h x dx C mA) : ∃ od, PySem.W.InstAt h x (PySem.W.instObj C dx) C (some od) ∧ ∀ name, PySem.W.lookIn name od = some (mA name) :=
  let ⟨od, ho, hl⟩ := lookIn_ns I.ns
  ⟨od, ⟨I.obj, rfl, rfl, ho⟩, hl⟩

section
variable {prog : Program} {w : World} {A : Around} {E : Value → Shared → Prop} {s : Shared} {K : PySem.W.Frag} {x dx C f : Addr} {mA : Str → Option Value} {name : Str} {v : Value}

end

/-! ### the attributes as a list of pairs -/
def putF (f : Str) (v : V) : List (Str × V) → List (Str × V)
  | [] => [(f, v)]
  | (g, x) :: r => if g = f then (g, v) :: r else (g, x) :: putF f v r
section
variable {P : Program} {w : World} {H H' : Hp} {h h' : Heap} {a C dx : Addr} {fs fs' : List (Str × V)}
theorem ins_get (hok : HOk P w H h) (e : H a = some (.ins C dx fs)) : ∃ mA, ObjM h a dx C mA ∧ (∀ f, RelO (fs.lookup f) (mA f)) ∧ PySem.Within mA (fs.map (·.1)) ∧ fs.length ≤ 1000 ∧ H dx = some (.own a) := by
  obtain ⟨d, z, ne, ob, mA, n, r, q⟩ := (show ObjOk P w H h a (.ins C dx fs) from hok a _ e)
  exact ⟨mA, ⟨ob, n, ne⟩, r, q, z, d⟩
end

/-! ### what of the text a class must have -/
structure Cls (K : PySem.W.Frag) (C : Addr) : Prop where
  pg : PySem.W.plainGet K C Str.empty = true
  hd : PySem.W.hasDictIn K C = true
  po : PySem.W.plainOver K C = true
  sa : PySem.W.findIn K (.ref C) "__setattr__" = some (some (.builtin "object.__setattr__"))
theorem Cls.get {K : PySem.W.Frag} {C : Addr} (c : Cls K C) (f : Str) : PySem.W.plainGet K C f = true := c.pg
/-- no class of it has the name -/
def NoAttr (K : PySem.W.Frag) (C : Addr) (f : Str) : Prop := PySem.W.findIn K (.ref C) f = some none
/-- a constant of the class -/
structure Con (K : PySem.W.Frag) (C : Addr) (f : Str) (v : V) (u : Value) : Prop where
  at_ : PySem.W.findIn K (.ref C) f = some (some u)
  rel : RelV v u
  get : PySem.W.specialIn K u "__get__" = some none
  cp : PySem.W.copiedNames.contains f = false
/-- a method: a plain def of the class or of one above it -/
structure Meth (K : PySem.W.Frag) (C : Addr) (m : Str) (f : Addr) : Prop where
  at_ : PySem.W.findIn K (.ref C) m = some (some (.ref f))
  fn : PySem.W.isFn K (.ref f) = true
  kp : PySem.W.keepIn K (.ref f) = true

section
variable {X : Cx} {pins : List (Addr × Obj)} {σ : St} {H : Hp} {s : Shared} {a C dx : Addr} {fs : List (Str × V)} {f : Str} {v : V} {A : Around} {E : Value → Shared → Prop}

/-- a new instance, tracked, without attributes -/
theorem Inv.made (I : Inv X pins σ H s) : Inv X pins σ (upd (upd H s.heap.objs.size (.own (s.heap.objs.size + 1))) (s.heap.objs.size + 1) (.ins C s.heap.objs.size []))
    { s with heap := (s.heap.push PySem.W.emptyDict).push (PySem.W.instObj C s.heap.objs.size) } := by
  have e1 : (s.heap.push PySem.W.emptyDict).get? s.heap.objs.size = some PySem.W.emptyDict := Heap.get?_push_size s.heap rfl
  have e2 : ((s.heap.push PySem.W.emptyDict).push (PySem.W.instObj C s.heap.objs.size)).get? (s.heap.objs.size + 1) = some (PySem.W.instObj C s.heap.objs.size) := by
    have := Heap.get?_push_size (s.heap.push PySem.W.emptyDict) (o := PySem.W.instObj C s.heap.objs.size) rfl
    rwa [Heap.size_push] at this
  have e3 : (s.heap.push PySem.W.emptyDict).Ns s.heap.objs.size (fun _ => none) := ⟨PySem.W.emptyDict, #[], _, e1, rfl, (fun e he => absurd he (by simp)), fun _ => rfl⟩
  have I1 := I.laid (a := s.heap.objs.size) (o := .own (s.heap.objs.size + 1)) (h' := s.heap.push PySem.W.emptyDict) (t' := s.toks) (fun b u q => Heap.get?_push_of_some _ q) (Nat.le_refl _) ⟨_, e1⟩
  refine I1.laid (a := s.heap.objs.size + 1) (o := .ins C s.heap.objs.size []) (t' := s.toks) (fun b u q => Heap.get?_push_of_some _ q) (Nat.le_of_eq (Heap.size_push _ _)) ?_
  have ne : s.heap.objs.size ≠ s.heap.objs.size + 1 := Nat.ne_of_lt (Nat.lt_succ_self _)
  refine ⟨by rw [upd_ne ne, upd_same], Nat.zero_le _, ne, e2, fun _ => none, (Heap.Ns1.of_empty e3).at fun o q => Heap.get?_push_of_some _ q, fun _ => True.intro, fun y hy => absurd rfl hy⟩

end

/-! ### readings and rules -/
/-- e.f, an attribute of the instance -/
def tFld (K : PySem.W.Frag) (ta : TE) (f : Str) : TE := fun σ H Q => ta σ H fun x H1 => ∃ a C dx fs v, x = .ref a ∧ H1 a = some (.ins C dx fs) ∧ Cls K C ∧ NoAttr K C f ∧ fs.lookup f = some v ∧ Q v H1
/-- e.f, a constant of the class -/
def tCon (K : PySem.W.Frag) (ta : TE) (f : Str) : TE := fun σ H Q => ta σ H fun x H1 => ∃ a C dx fs v u, x = .ref a ∧ H1 a = some (.ins C dx fs) ∧ Cls K C ∧ Con K C f v u ∧ fs.lookup f = none ∧ Q v H1
/-- e.f = value -/
def sFld (K : PySem.W.Frag) (ta tv : TE) (f : Str) : TS := fun D σ H => tv σ H fun y H1 => ta σ H1 fun x H2 => ∃ a C dx fs, x = .ref a ∧ H2 a = some (.ins C dx fs) ∧ Cls K C ∧ NoAttr K C f ∧ fs.length < 1000 ∧
  D.nx σ (upd H2 a (.ins C dx (putF f y fs)))
/-- an augmented operator on two values -/
def InOp (X : Cx) (op : Operator) (rd : V → V → Hp → VK → Prop) : Prop :=
  ∀ (pins : List (Addr × Obj)) (s : Shared) (σ : St) (H : Hp) (x y : V) (u v : Value) (Q : VK), Inv X pins σ H s → RelV x u → RelV y v → rd x y H Q → wpAny (model X.prog X.w) X.A (inplaceOp op u v) (EP X pins σ Q) X.xe s
/-- e.f op= value -/
def sFldAug (K : PySem.W.Frag) (ta tv : TE) (rd : V → V → Hp → VK → Prop) (f : Str) : TS := fun D σ H => ta σ H fun x H1 => ∃ a C dx fs v, x = .ref a ∧ H1 a = some (.ins C dx fs) ∧ Cls K C ∧ NoAttr K C f ∧ fs.lookup f = some v ∧
  tv σ H1 fun y H2 => rd v y H2 fun z H3 => ∃ dx' fs', H3 a = some (.ins C dx' fs') ∧ fs'.length < 1000 ∧ D.nx σ (upd H3 a (.ins C dx' (putF f z fs')))

section
variable {X : Cx} {o e value : Expr} {f : Str} {pos pos' tpos : Pos} {ta tv : TE}
def rAdd : V → V → Hp → VK → Prop := fun x y H Q => ∃ i j, x = .int i ∧ y = .int j ∧ Q (.int (i + j)) H
def rSub : V → V → Hp → VK → Prop := fun x y H Q => ∃ i j, x = .int i ∧ y = .int j ∧ Q (.int (i - j)) H
end

/-! ### isinstance -/
section
variable {X : Cx} {pins : List (Addr × Obj)} {σ : St} {H : Hp} {s : Shared} {A : Around} {E : Value → Shared → Prop} {Q : Value → Shared → Prop} {c : Value} {b : Bool}
/-- the type of a value, as the fragment's deciders take it; for an instance its class -/
inductive TyOf (K : PySem.W.Frag) (H : Hp) : V → Value → Prop where
  | non : TyOf K H .non (.type "NoneType")
  | bl (x : Bool) : TyOf K H (.bl x) (.type "bool")
  | int (i : Int) : TyOf K H (.int i) (.type "int")
  | str (x : Str) : TyOf K H (.str x) (.type "str")
  | flt (x : UInt64) : TyOf K H (.flt x) (.type "float")
  | lst {a : Addr} {xs : List V} (e : H a = some (.lst xs)) : TyOf K H (.ref a) (.type "list")
  | frz {a : Addr} {o : Obj} {xs : List V} (e : H a = some (.frz o (.lst xs))) : TyOf K H (.ref a) (.type "list")
  | tup {a : Addr} {xs : List V} (e : H a = some (.tup xs)) : TyOf K H (.ref a) (.type "tuple")
  | dK {a : Addr} {kvs : List (Key × V)} (e : H a = some (.dK kvs)) : TyOf K H (.ref a) (.type "dict")
  | dT {a : Addr} {kvs : List (List Key × V)} (e : H a = some (.dT kvs)) : TyOf K H (.ref a) (.type "dict")
  | ins {a C dx : Addr} {fs : List (Str × V)} (e : H a = some (.ins C dx fs)) (cl : Cls K C) (ha : PySem.W.findIn K (.ref C) "__class__" = some (some (.builtin "object.__class__")))
      (hn : PySem.W.specialIn K (.builtin "object.__class__") "__get__" = some (some (.builtin "getset_descriptor.__get__"))) (htk : PySem.W.takesIn K (.builtin "object.__class__") = some true)
      (hm : PySem.W.mroIn K C (.type "object") = some true) : TyOf K H (.ref a) (.ref C)
/-- isinstance(x, c) for one class c, a built-in or an own one: kitOne's answer -/
theorem isinst_ok {x : V} {u t : Value} (I : Inv X pins σ H s) (rx : RelV x u) (ty : TyOf X.K H x t) (e : PySem.W.kitOne X.K t c = some b) (h : ∀ tk, Q (.bool b) { s with toks := tk }) :
    wpAny (model X.prog X.w) A (call (.builtin "isinstance") [u, c]) Q E s := by
  cases ty with
  | non => cases (show u = Value.none from rx); exact PySem.W.kia_one PySem.W.kitx_none I.kIn True.intro e (fun z => nomatch z) h
  | bl y => cases (show u = Value.bool y from rx); exact PySem.W.kia_one PySem.W.kitx_bool I.kIn True.intro e (fun z => nomatch z) h
  | int i => obtain ⟨t, q⟩ := (show ∃ t, u = Value.int i t from rx); cases q; exact PySem.W.kia_one PySem.W.kitx_int I.kIn True.intro e (fun z => nomatch z) h
  | str y => obtain ⟨t, q⟩ := (show ∃ t, u = Value.str y t from rx); cases q; exact PySem.W.kia_one PySem.W.kitx_str I.kIn True.intro e (fun z => nomatch z) h
  | flt y => obtain ⟨t, q⟩ := (show ∃ t, u = Value.float y t from rx); cases q; exact PySem.W.kia_one PySem.W.kitx_float I.kIn True.intro e (fun z => nomatch z) h
  | @lst a xs ea =>
    cases (show u = Value.ref a from rx)
    obtain ⟨_, _, n, _, h1⟩ := (show ObjOk X.prog X.w H s.heap a (.lst xs) from I.hok a _ ea)
    exact PySem.W.kia_one PySem.W.kitx_list I.kIn ⟨_, h1, rfl⟩ e (fun z => nomatch z) h
  | @frz a ob xs ea =>
    cases (show u = Value.ref a from rx)
    obtain ⟨_, _, _, n, _, h1⟩ := (show ObjOk X.prog X.w H s.heap a (.frz ob (.lst xs)) from I.hok a _ ea)
    exact PySem.W.kia_one PySem.W.kitx_list I.kIn ⟨_, h1, rfl⟩ e (fun z => nomatch z) h
  | @tup a xs ea =>
    cases (show u = Value.ref a from rx)
    obtain ⟨_, _, _, p⟩ := (show ObjOk X.prog X.w H s.heap a (.tup xs) from I.hok a _ ea)
    obtain ⟨o, h1, h2, _⟩ := p
    exact PySem.W.kia_one PySem.W.kitx_tuple I.kIn ⟨o, h1, h2⟩ e (fun z => nomatch z) h
  | @dK a kvs ea =>
    cases (show u = Value.ref a from rx)
    obtain ⟨_, _, vs, _, p⟩ := (show ObjOk X.prog X.w H s.heap a (.dK kvs) from I.hok a _ ea)
    obtain ⟨o, es, ep, h1, h2, _⟩ := p
    exact PySem.W.kia_one PySem.W.kitx_dict I.kIn ⟨o, h1, h2.1⟩ e (fun z => nomatch z) h
  | @dT a kvs ea =>
    cases (show u = Value.ref a from rx)
    obtain ⟨_, _, xs, _, o, es, ep, h1, h2, _⟩ := (show ObjOk X.prog X.w H s.heap a (.dT kvs) from I.hok a _ ea)
    exact PySem.W.kia_one PySem.W.kitx_dict I.kIn ⟨o, h1, h2.1⟩ e (fun z => nomatch z) h
  | @ins a C dx fs ea cl ha hn htk hm =>
    cases (show u = Value.ref a from rx)
    obtain ⟨mA, O, _⟩ := ins_get I.hok ea
    obtain ⟨od, J, _⟩ := O.look
    exact PySem.W.kia_one (PySem.W.kitx_own (cl.get _) cl.hd ha hn htk hm) I.kIn J e (fun z => nomatch z) h
end
end L2

namespace L2
open PySem PySem.Spec PyProof.Rows

/-! ### room -/
structure Room (k : Nat) (A : Around) : Prop where
  hd : A.handled = none
  dp : A.depth + 3 * k + 5 < recursionLimit
  un : A.units + 16 * k + 200 < cLine
theorem Room.mono {j k : Nat} {A : Around} (r : Room k A) (h : j ≤ k) : Room j A := ⟨r.hd, by have := r.dp; omega, by have := r.un; omega⟩
theorem Room.deeper {k : Nat} {A : Around} (r : Room (k + 1) A) (env : Env) : Room k (A.deeper env) :=
  ⟨r.hd, by have := r.dp; show A.depth + 1 + 3 * k + 5 < _; omega, by have := r.un; show A.units + 3 + 16 * k + 200 < _; omega⟩
theorem Room.in1 {k : Nat} {A : Around} (r : Room (k + 1) A) : Room k A.in1 :=
  ⟨r.hd, by have := r.dp; show A.depth + 3 * k + 5 < _; omega, by have := r.un; show A.units + 1 + 16 * k + 200 < _; omega⟩
theorem make_depth {A : Around} {C : Addr} {us : List Value} {kw : List (Str × Value)} : (A.under (.builtin "type.__call__" ⟨.ref C :: us, kw⟩)).depth = A.depth + 1 := by
  first | rfl | simp [Around.under, Code.weight, Code.isCreation, Code.isGuard, Code.isCaller, Code.frames, Code.isFrame, guardIds]
theorem make_units {A : Around} {C : Addr} {us : List Value} {kw : List (Str × Value)} : (A.under (.builtin "type.__call__" ⟨.ref C :: us, kw⟩)).units = A.units + 1 := by
  first | rfl | simp [Around.under, Code.cUnits, Code.frames, Code.isFrame]
theorem Room.make {k : Nat} {A : Around} (r : Room (k + 1) A) (C : Addr) (us : List Value) (kw : List (Str × Value)) : Room k (A.under (.builtin "type.__call__" ⟨.ref C :: us, kw⟩)) :=
  ⟨r.hd, by have := r.dp; rw [make_depth]; omega, by have := r.un; rw [make_units]; omega⟩
theorem Room.depth {k : Nat} {A : Around} (r : Room k A) : A.depth < recursionLimit := by have := r.dp; omega
theorem Room.units {k : Nat} {A : Around} (r : Room k A) : A.units + 64 < cLine := by have := r.un; omega
/-! ### argument lists and displays -/
def tNil : TA := fun _ H Q => Q [] H
def tCons (ta : TE) (tr : TA) : TA := fun σ H Q => ta σ H fun x H1 => tr σ H1 fun xs H2 => Q (x :: xs) H2
section
variable {X : Cx} {e : Expr} {es : List Expr} {te : TE} {t : TA} {pos : Pos}
theorem pa_nil : PA X [] tNil := fun _ _ _ _ H Q I h => Calls.spliced_nil ⟨[], H, I, .nil, h⟩
theorem pa_cons (ha : PE X e te) (hr : PA X es t) (hs : starEach (e :: es) X.env = (false, eval e X.env) :: starEach es X.env := by rfl) : PA X (e :: es) (tCons te t) := by
  intro pos pins s σ H Q I h
  rw [hs]
  show wpAny _ _ (spliced ((false, eval e X.env) :: backTo pos (starEach es X.env))) _ _ s
  refine Calls.spliced_cons (thn (ha pins s σ H _ I h) fun u s1 ⟨x, H1, I1, r1, q1⟩ => ?_)
  exact thn (hr pos pins s1 σ H1 _ I1 q1) fun us s2 ⟨xs, H2, I2, r2, q2⟩ => ⟨x :: xs, H2, I2, .cons r1 r2, q2⟩

/-- a tuple, a list of written items -/
def tTup (t : TA) : TE := fun σ H Q => t σ H fun xs H1 => xs.length ≤ sizeLine ∧ ∀ p, H1 p = none → Q (.ref p) (upd H1 p (.tup xs))
def tLst (t : TA) : TE := fun σ H Q => t σ H fun xs H1 => xs.length ≤ sizeLine ∧ ∀ p, H1 p = none → Q (.ref p) (upd H1 p (.lst xs))
theorem pe_tup {x1} (h : PA X es t) : PE X (.Tuple es x1 pos) (tTup t) := by
  intro pins s σ H Q I hq
  refine wpAny_Tuple_spliced (thn (h pos pins s σ H _ I hq) fun us s1 ⟨xs, H1, I1, r, z, q⟩ => ⟨by rw [← r.length]; exact z, ?_⟩)
  have hf : H1 s1.heap.objs.size = none := I1.hok.fresh (Nat.le_refl _)
  refine ⟨.ref s1.heap.objs.size, upd H1 s1.heap.objs.size (.tup xs), I1.laid (t' := s1.toks) (fun b u e => Heap.get?_push_of_some _ e) (Nat.le_refl _) ?_, rfl, q _ hf⟩
  exact ⟨z, us, r, ⟨_, Heap.get?_push_size _ rfl, rfl, _, rfl⟩⟩
theorem pe_lst (h : PA X es t) : PE X (.List es pos) (tLst t) := by
  intro pins s σ H Q I hq
  refine wpAny_List_spliced (thn (h pos pins s σ H _ I hq) fun us s1 ⟨xs, H1, I1, r, z, q⟩ => ⟨by rw [← r.length]; exact z, ?_⟩)
  have hf : H1 s1.heap.objs.size = none := I1.hok.fresh (Nat.le_refl _)
  refine ⟨.ref s1.heap.objs.size, upd H1 s1.heap.objs.size (.lst xs), I1.laid (t' := s1.toks) (fun b u e => Heap.get?_push_of_some _ e) (Nat.le_refl _) ?_, rfl, q _ hf⟩
  exact ⟨z, us, 0, r, Heap.get?_push_size _ rfl⟩
end

/-! ### what a def promises -/
/-- a def's promise: the bound arguments in the parameters' order, the heap, the wanted end, the wanted exception -/
abbrev Sp := List V → Hp → VK → XK → Prop
/-- how an exception lies behind a call (file 08 gives it): the callers' frames, abstract heap and state ahead of the call, the wish, the exception, the state -/
abbrev CXT := List Env → Hp → Shared → XK → Value → Shared → Prop

/-- the state at a call -/
structure Env0 (P : Program) (w : World) (K : PySem.W.Frag) (mg : Str → Option Value) (base : Heap) (A : Around) (outer : List Env) (s : Shared) (H : Hp) : Prop where
  frames : A.frames = some outer
  mod : Mod K mg base
  bs : ∀ b o, base.get? b = some o → s.heap.get? b = some o ∧ H b = none
  bsz : base.objs.size ≤ s.heap.objs.size
  funs : s.heap.FunFrames base outer
  frf : ∀ b ∈ frs outer, H b = none
  hok : HOk P w H s.heap
  bare : AllBare s.gens
/-- a call's end -/
def CE (outer : List Env) (P : Program) (w : World) (H : Hp) (s : Shared) (Q : VK) (u : Value) (s' : Shared) : Prop :=
  ∃ v H', s'.os = s.os ∧ AllBare s'.gens ∧ Un (frs outer) [] H H' s.heap s'.heap ∧ HOk P w H' s'.heap ∧ RelV v u ∧ Q v H'
def CR (CX : CXT) (outer : List Env) (P : Program) (w : World) (H : Hp) (s : Shared) (Q : VK) (E : XK) (r : Result) (s' : Shared) : Prop :=
  match r with
  | .ok (.ret u) => CE outer P w H s Q u s'
  | .ok _ => False
  | .error e => CX outer H s E e s'
structure FnOk (P : Program) (w : World) (K : PySem.W.Frag) (mg : Str → Option Value) (base : Heap) (CX : CXT) (k : Nat) (f : Addr) (fd : FuncData) (ps : List Str) (sp : Sp) : Prop where
  len : ∀ vs H Q E, sp vs H Q E → vs.length = ps.length
  run : ∀ (A : Around) (outer : List Env) (s : Shared) (H : Hp) (args : Args) (us : List Value) (vs : List V) (Q : VK) (E : XK), Room k A → Env0 P w K mg base A outer s H → BindsTo s fd args (ps.zip us) → Vals vs us → sp vs H Q E →
    codeAny (model P w) A (.call (.ref f) args) (CR CX outer P w H s Q E) s
theorem FnOk.mono {P : Program} {w : World} {K : PySem.W.Frag} {mg : Str → Option Value} {base : Heap} {CX : CXT} {j k : Nat} {f : Addr} {fd : FuncData} {ps : List Str} {sp : Sp} (F : FnOk P w K mg base CX j f fd ps sp) (h : j ≤ k) :
    FnOk P w K mg base CX k f fd ps sp := ⟨F.len, fun A outer s H args us vs Q E hr => F.run A outer s H args us vs Q E (hr.mono h)⟩
/-- a weaker promise -/
theorem FnOk.imp {P : Program} {w : World} {K : PySem.W.Frag} {mg : Str → Option Value} {base : Heap} {CX : CXT} {k : Nat} {f : Addr} {fd : FuncData} {ps : List Str} {sp sp' : Sp} (F : FnOk P w K mg base CX k f fd ps sp)
    (h : ∀ vs H Q E, sp' vs H Q E → sp vs H Q E) : FnOk P w K mg base CX k f fd ps sp' :=
  ⟨fun vs H Q E q => F.len vs H Q E (h _ _ _ _ q), fun A outer s H args us vs Q E hr he hb hv hs => F.run A outer s H args us vs Q E hr he hb hv (h _ _ _ _ hs)⟩

theorem Env0.make {P : Program} {w : World} {K : PySem.W.Frag} {mg : Str → Option Value} {base : Heap} {A : Around} {outer : List Env} {s : Shared} {H : Hp} (e : Env0 P w K mg base A outer s H) (C : Addr) (us : List Value) (kw : List (Str × Value)) :
    Env0 P w K mg base (A.under (.builtin "type.__call__" ⟨.ref C :: us, kw⟩)) outer s H := ⟨by first | exact e.frames | (simpa [Around.under, Code.envs, Code.isFrame, pushEnvs] using e.frames), e.mod, e.bs, e.bsz, e.funs, e.frf, e.hok, e.bare⟩
theorem Env0.in1 {P : Program} {w : World} {K : PySem.W.Frag} {mg : Str → Option Value} {base : Heap} {A : Around} {outer : List Env} {s : Shared} {H : Hp} (e : Env0 P w K mg base A outer s H) :
    Env0 P w K mg base A.in1 outer s H := ⟨e.frames, e.mod, e.bs, e.bsz, e.funs, e.frf, e.hok, e.bare⟩

section
variable {X : Cx} {pins : List (Addr × Obj)} {σ : St} {H : Hp} {s s' : Shared}
/-- from a body: what a callee wants -/
theorem Inv.env0 (I : Inv X pins σ H s) : Env0 X.prog X.w X.K X.mg X.base X.A X.stack s H :=
  ⟨I.ok.frames, I.ok.mod, I.bs, Nat.le_trans I.ok.bsz I.sz, I.stack, I.stkFree, I.hok, I.bare⟩
/-- behind a call -/
theorem Inv.after {Q : VK} {u : Value} (I : Inv X pins σ H s) (h : CE X.stack X.prog X.w H s Q u s') : EP X pins σ Q u s' := by
  obtain ⟨v, H', os, bare, un, hok, r, q⟩ := h
  obtain ⟨hh, g, d, t, os'⟩ := s'
  obtain rfl : os' = s.os := os
  exact ⟨v, H', I.call (h' := hh) (g' := g) (d' := d) (t' := t) (ch := []) un hok bare (fun b z => absurd z (by simp)), r, q⟩
end

/-! ### calls -/
/-- f(..): the written arguments, then the defaults dvs; E: what is wanted of an exception -/
def tCall (sp : Sp) (dvs : List V) (E : XK) (t : TA) : TE := fun σ H Q => t σ H fun vs H1 => sp (vs ++ dvs) H1 Q E
/-- o.m(..) of an instance of the class at C -/
def tMeth (C : Addr) (m : Str) (sp : Sp) (dvs : List V) (E : XK) (ta : TE) (t : TA) : TE := fun σ H Q => ta σ H fun x H1 => ∃ a dx fs, x = .ref a ∧ H1 a = some (.ins C dx fs) ∧ fs.lookup m = none ∧
  t σ H1 fun vs H2 => sp (x :: (vs ++ dvs)) H2 Q E
/-- C(..): a new instance and its dict, then __init__ -/
def tMake (C : Addr) (sp : Sp) (dvs : List V) (E : XK) (t : TA) : TE := fun σ H Q => t σ H fun vs H1 => ∀ x dx, H1 x = none → H1 dx = none → dx ≠ x →
  sp (.ref x :: (vs ++ dvs)) (upd (upd H1 dx (.own x)) x (.ins C dx [])) (fun v H2 => v = .non ∧ Q (.ref x) H2) E

/-- how the parameters are bound: us the positional arguments, kw the keywords' values by name, ds the defaults that fill up -/
def Binds (K : PySem.W.Frag) (fd : FuncData) (ps : List Str) (ds : List Value) : Prop :=
  ∀ (s : Shared) (us : List Value), K.In s.heap → (us ++ ds).length = ps.length → BindsTo s fd ⟨us, []⟩ (ps.zip (us ++ ds))
/-- every parameter is given -/
theorem Binds.all {K : PySem.W.Frag} {fd : FuncData} {ps : List Str} (h : ∀ us : List Value, us.length = ps.length → bindArgs fd ⟨us, []⟩ = pure (ps.zip us)) : Binds K fd ps [] := fun s us _ hl => by
  rw [List.append_nil] at hl ⊢
  exact .of_eq (h us hl)

/-- an exception of a callee reaches what this body wants of exceptions -/
def Passes (CX : CXT) (X : Cx) (E : XK) : Prop := ∀ (pins : List (Addr × Obj)) (σ : St) (H : Hp) (s : Shared) (e : Value) (s' : Shared), Inv X pins σ H s → CX X.stack H s E e s' → X.xe e s'

section
variable {X : Cx} {CX : CXT} {k : Nat} {f C : Addr} {fd : FuncData} {ps : List Str} {sp : Sp} {dvs : List V} {ds : List Value} {E : XK} {x m : Str} {p pos apos : Pos} {e o : Expr} {es : List Expr} {ta : TE} {t : TA}

/-- what a class must have to be made -/
structure Mk (K : PySem.W.Frag) (C f : Addr) : Prop where
  makes : PySem.W.makesIn K C = true
  init : PySem.W.findIn K (.ref C) "__init__" = some (some (.ref f))
  fn : PySem.W.isFn K (.ref f) = true
  kp : PySem.W.keepIn K (.ref C) = true

end

/-! ### keywords -/
/-- the values of the keywords, from the left -/
def PK (X : Cx) (kws : List Keyword) (t : TA) : Prop :=
  ∀ (pos : Pos) (pins : List (Addr × Obj)) (s : Shared) (σ : St) (H : Hp) (Q : List V → Hp → Prop), Inv X pins σ H s → t σ H Q → wpAny (model X.prog X.w) X.A (evalAll ((backToKw pos (keywordEach kws X.env)).map (·.2))) (AP X pins σ Q) X.xe s
section
variable {X : Cx} {CX : CXT} {k : Nat} {f C : Addr} {fd : FuncData} {ps ks : List Str} {sp : Sp} {E : XK} {x m : Str} {p pos apos kpos : Pos} {e o : Expr} {es : List Expr} {kws : List Keyword} {te ta : TE} {t tk : TA} {nm : Option Str}
/-- how a call with keywords binds: g puts the positional values us and the keywords' values ws (names ks) in the parameters' order, defaults among them -/
structure KBinds (K : PySem.W.Frag) (fd : FuncData) (ps ks : List Str) (g : List Value → List Value → List Value) (gV : List V → List V → List V) : Prop where
  to : ∀ (s : Shared) (us ws : List Value), K.In s.heap → (g us ws).length = ps.length → BindsTo s fd ⟨us, ks.zip ws⟩ (ps.zip (g us ws))
  rel : ∀ {vs : List V} {us : List Value} {zs : List V} {ws : List Value}, Vals vs us → Vals zs ws → Vals (gV vs zs) (g us ws)
def tCallK (sp : Sp) (gV : List V → List V → List V) (E : XK) (t tk : TA) : TE := fun σ H Q => t σ H fun vs H1 => tk σ H1 fun zs H2 => sp (gV vs zs) H2 Q E
variable {g : List Value → List Value → List Value} {gV : List V → List V → List V}
end

/-! ### a def's body keeps its promise -/
/-- names: the parameters first -/
structure FnScope (N P : List Str) (sc : Scope) : Prop where
  kind : sc.kind = .function
  co : sc.isCoroutine = false
  gen : sc.isGenerator = false
  nd : N.Nodup
  pre : N.take P.length = P
  par : ∀ x ∈ P, sc.names.lookup x = some .local ∨ sc.names.lookup x = some .cell
  nofree : ∀ y ∈ sc.names, y.2 ≠ .free

theorem bindL_out {kindOf : Str → Option NameKind} {x : Str} : ∀ {binds : List (Str × Value)} {m : Str → Option Value}, (∀ v, (x, v) ∉ binds) → bindL kindOf binds m x = m x
  | [], _, _ => rfl
  | (n, v) :: r, m, h => by
    unfold bindL
    rw [bindL_out fun w hw => h w (List.mem_cons_of_mem _ hw)]
    split
    · have : x ≠ n := by rintro rfl; exact h v List.mem_cons_self
      simp [this]
    · rfl
theorem bindC_out {kindOf : Str → Option NameKind} {x : Str} : ∀ {binds : List (Str × Value)} {m : Str → Option Value}, (∀ v, (x, v) ∉ binds) → bindC kindOf binds m x = m x
  | [], _, _ => rfl
  | (n, v) :: r, m, h => by
    unfold bindC
    rw [bindC_out fun w hw => h w (List.mem_cons_of_mem _ hw)]
    split
    · rfl
    · have : x ≠ n := by rintro rfl; exact h v List.mem_cons_self
      simp [this]
theorem bindL_get {kindOf : Str → Option NameKind} {x : Str} {v : Value} : ∀ {P : List Str} {vs : List Value} {i : Nat} {m : Str → Option Value}, P.Nodup → P[i]? = some x → vs[i]? = some v → kindOf x = some .local →
    bindL kindOf (P.zip vs) m x = some v
  | [], _, _, _, _, h, _, _ => by simp at h
  | _ :: _, [], _, _, _, _, h, _ => by simp at h
  | p :: P, w :: vs, 0, m, nd, h1, h2, hk => by
    simp at h1 h2; subst h1; subst h2
    show bindL kindOf ((p, w) :: P.zip vs) m p = _
    unfold bindL
    rw [bindL_out fun v hv => (List.nodup_cons.mp nd).1 (List.of_mem_zip hv).1, if_pos hk]
    simp
  | p :: P, w :: vs, i + 1, m, nd, h1, h2, hk => by
    show bindL kindOf ((p, w) :: P.zip vs) m x = _
    unfold bindL
    exact bindL_get (i := i) (List.nodup_cons.mp nd).2 (by simpa using h1) (by simpa using h2) hk
theorem bindC_get {kindOf : Str → Option NameKind} {x : Str} {v : Value} : ∀ {P : List Str} {vs : List Value} {i : Nat} {m : Str → Option Value}, P.Nodup → P[i]? = some x → vs[i]? = some v → kindOf x ≠ some .local →
    bindC kindOf (P.zip vs) m x = some v
  | [], _, _, _, _, h, _, _ => by simp at h
  | _ :: _, [], _, _, _, _, h, _ => by simp at h
  | p :: P, w :: vs, 0, m, nd, h1, h2, hk => by
    simp at h1 h2; subst h1; subst h2
    show bindC kindOf ((p, w) :: P.zip vs) m p = _
    unfold bindC
    rw [bindC_out fun v hv => (List.nodup_cons.mp nd).1 (List.of_mem_zip hv).1, if_neg hk]
    simp
  | p :: P, w :: vs, i + 1, m, nd, h1, h2, hk => by
    show bindC kindOf ((p, w) :: P.zip vs) m x = _
    unfold bindC
    exact bindC_get (i := i) (List.nodup_cons.mp nd).2 (by simpa using h1) (by simpa using h2) hk

/-- the names' values at the entry -/
def start (N : List Str) (vs : List V) : St := vs.map some ++ List.replicate (N.length - vs.length) none

/-- the context of a def's body, at its entry; an exception leaves the frame, then lies as CX says -/
def cxOf (CX : CXT) (P : Program) (w : World) (K : PySem.W.Frag) (mg : Str → Option Value) (base : Heap) (N : List Str) (qual : Str) (scope : Scope) (f : Addr) (cd : Value) (A : Around) (outer : List Env) (s : Shared) (H : Hp) (E : XK) : Cx where
  prog := P
  w := w
  K := K
  mg := mg
  base := base
  A := A.deeper (envOfC qual scope s.heap.objs.size f cd)
  N := N
  s₀ := s
  H₀ := H
  env := envOfC qual scope s.heap.objs.size f cd
  outer := outer
  stack := envOfC qual scope s.heap.objs.size f cd :: outer
  ex := []
  calm := true
  fn := fun _ => true
  pn := []
  xe := fun e s' => wpAny (model P w) (A.deeper (envOfC qual scope s.heap.objs.size f cd)) (leaving (envOfC qual scope s.heap.objs.size f cd) e) (fun _ s'' => CX outer H s E e s'') (fun e' s'' => CX outer H s E e' s'') s'

theorem cell_has {sc : Scope} {n : Nat} {x : Str} (h : sc.names.lookup x = some .cell) : ∃ c, (cellsFrom n sc.names []).lookup x = some c := by
  have q := PySem.W.cellsFrom_some sc.names n [] (.inl h)
  exact Option.isSome_iff_exists.mp q

theorem inv_start {CX : CXT} {P : Program} {w : World} {K : PySem.W.Frag} {mg : Str → Option Value} {base : Heap} {N ps : List Str} {qual : Str} {scope : Scope} {f : Addr} {cd : Value} {A : Around} {outer : List Env} {s s1 : Shared} {H : Hp} {E : XK} {us : List Value} {vs : List V}
    (S : FnScope N ps scope) (hd : A.handled = none) (e0 : Env0 P w K mg base A outer s H) (hl : vs.length = ps.length) (r : Vals vs us)
    (x : InCallC s s.heap.objs.size (bindL (envOfC qual scope s.heap.objs.size f cd).kindOf (ps.zip us) fun _ => none) (cellsFrom (s.heap.objs.size + 1) scope.names []) (bindC (envOfC qual scope s.heap.objs.size f cd).kindOf (ps.zip us) fun _ => none) s1) :
    Inv (cxOf CX P w K mg base N qual scope f cd A outer s H E) [] (start N vs) H s1 := by
  have hpl : ps.length ≤ N.length := by have := congrArg List.length S.pre; rw [List.length_take] at this; omega
  obtain ⟨h1, tk, rfl, hk⟩ := x.done
  have noA : ∀ b : Addr, b ∉ (cxOf CX P w K mg base N qual scope f cd A outer s H E).ex := fun b z => absurd (show b ∈ ([] : List Addr) from z) (by simp)
  refine ⟨⟨e0.mod, S.kind, rfl, rfl, Nat.le_refl _, fun y z c h1 h2 => ?_, fun y hy => ?_, fun y c _ h => ?_, fun _ => hd, Around.frames_deeper e0.frames, .inr ⟨rfl, rfl⟩, fun b z => absurd z (noA b), e0.bs, e0.bsz, fun b _ _ => noA b, fun b z => absurd z (noA b), e0.funs, e0.frf⟩,
    rfl, e0.bare, Un.kept hk, ⟨_, x.toInCall.ns, fun i y v h1 h2 h3 => ?_⟩, fun y c h => ⟨_, x.cell y c h⟩, e0.hok.fresh (Nat.le_refl _), fun y c h => ?_, fun p hp => absurd (show p ∈ ([] : List (Addr × Obj)) from hp) (by simp), e0.hok.kept hk, ?_⟩
  · exact name_of_addr x.apart (PySem.mem_of_lookup h1) (PySem.mem_of_lookup h2)
  · have hy : scope.names.lookup y = some .cell ∨ scope.names.lookup y = some .free := hy
    rcases hy with hy | hy
    · exact cell_has hy
    · exact absurd rfl (S.nofree _ (PySem.mem_of_lookup hy))
  · exact Nat.le_of_lt (x.above y c (PySem.mem_of_lookup h))
  · have hi : i < vs.length := by
      unfold start at h2
      by_cases hi : i < vs.length
      · exact hi
      · rw [List.getElem?_append_right (by simpa using hi)] at h2
        rw [List.getElem?_replicate] at h2
        split at h2 <;> cases h2
    have ha : vs[i]? = some v := by
      unfold start at h2
      rw [List.getElem?_append_left (by simpa using hi), List.getElem?_map] at h2
      cases e : vs[i]? with
      | none => rw [e] at h2; cases h2
      | some a => rw [e] at h2; cases h2; rfl
    obtain ⟨u, hu, rv⟩ := r.get ha
    have hp : ps[i]? = some y := by
      rw [← S.pre, List.getElem?_take_of_lt (by omega)]; exact h1
    have ndP : ps.Nodup := by rw [← S.pre]; exact S.nd.sublist (List.take_sublist _ _)
    refine ⟨u, rv, ?_⟩
    rcases S.par y (List.mem_of_getElem? hp) with k | k
    · exact .inl ⟨k, bindL_get ndP hp hu k⟩
    · obtain ⟨c, e⟩ := cell_has (n := s.heap.objs.size + 1) k
      refine .inr ⟨.inl k, c, e, ?_⟩
      have q := x.cell y c e
      rw [bindC_get ndP hp hu (by show scope.names.lookup y ≠ _; rw [k]; decide)] at q
      exact q
  · exact e0.hok.fresh (Nat.le_of_lt (x.above y c (PySem.mem_of_lookup h)))
  · unfold start
    show _ = N.length
    rw [List.length_append, List.length_map, List.length_replicate]
    omega

/-- THE RULE: a def (or a method) of the text, by its body. The body's reading t is chosen for each entry; it is run at the parameters' values -/
theorem fn_of {CX : CXT} {P : Program} {w : World} {K : PySem.W.Frag} {mg : Str → Option Value} {base : Heap} {k : Nat} {f : Addr} {name qual : Str} {params : Arguments} {body : List Stmt} {scope : Scope} {dV kV doc pm cdv ct oc : Value} {an od : Option Addr}
    {osl : Array (Option Value)} {N ps : List Str} {sp : Sp} (lk : K.lookup f = some ⟨oc, od, .func (PySem.W.fnOf name qual params body scope dV kV doc pm an cdv ct), osl⟩) (hcd : PySem.W.codeIn K cdv qual = true) (S : FnScope N ps scope)
    (len : ∀ vs H Q E, sp vs H Q E → vs.length = ps.length)
    (hbody : ∀ (A : Around) (outer : List Env) (s : Shared) (H : Hp) (vs : List V) (Q : VK) (E : XK), Room k (A.deeper (envOfC qual scope s.heap.objs.size f cdv)) → sp vs H Q E →
      ∃ t, PSs (cxOf CX P w K mg base N qual scope f cdv A outer s H E) body t ∧ t { nx := fun _ H' => Q .non H', rt := Q } (start N vs) H) :
    FnOk P w K mg base CX (k + 1) f (PySem.W.fnOf name qual params body scope dV kV doc pm an cdv ct) ps sp := by
  refine ⟨len, fun A outer s H args us vs Q E hr e0 hb r hsp => ?_⟩
  have hl := len _ _ _ _ hsp
  have KX : K.In s.heap := e0.mod.kin.keeps fun b o e => (e0.bs b o e).1
  have lim : s.heap.NoLimit := e0.mod.nolimit.keeps fun b o e => (e0.bs b o e).1
  have hkind : ∀ y ∈ ps.zip us, scope.names.lookup y.1 = some .local ∨ (scope.names.lookup y.1 = some .cell ∧ ((cellsFrom (s.heap.objs.size + 1) scope.names []).lookup y.1).isSome = true) := fun ⟨n, v⟩ hy => by
    rcases S.par n (List.of_mem_zip hy).1 with q | q
    · exact .inl q
    · exact .inr ⟨q, PySem.W.cellsFrom_some _ _ _ (.inl q)⟩
  refine codeAny_call_function hr.depth (KX _ _ lk) rfl S.co S.gen rfl (PySem.W.codeRec_of KX hcd) (hb _ _ _ _ ?_)
  refine wpAny_newFunctionEnv_cells S.kind hkind fun env he s1 x => ?_
  subst he
  refine ⟨lim.keeps x.toInCall.keep, codeAny_func ?_⟩
  obtain ⟨t, ht, hq⟩ := hbody A outer s H vs Q E (hr.deeper _) hsp
  have I : Inv (cxOf CX P w K mg base N qual scope f cdv A outer s H E) [] (start N vs) H s1 := inv_start S hr.hd e0 hl r x
  refine wpAny_mono (ht [] s1 (start N vs) H _ I hq) (fun fl s' hs => ?_) fun e s' hs => hs
  have fin : ∀ {σ' : St} {H' : Hp} {v : V} {u : Value}, Inv (cxOf CX P w K mg base N qual scope f cdv A outer s H E) [] σ' H' s' → RelV v u → Q v H' → CE outer P w H s Q u s' :=
    fun {σ' H' v u} J rv q => ⟨v, H', J.os, J.bare, J.base, J.hok, rv, q⟩
  cases fl with
  | ret u =>
    obtain ⟨v, σ', H', J, rv, q⟩ := hs
    exact fin J rv q
  | next =>
    obtain ⟨σ', H', J, q⟩ := hs
    exact fin (v := V.non) (u := Value.none) J rfl q
  | brk =>
    obtain ⟨_, _, _, q⟩ := hs
    exact False.elim q
  | cont =>
    obtain ⟨_, _, _, q⟩ := hs
    exact False.elim q
end L2

namespace L2
open PySem PySem.Spec PyProof.Rows
section
variable {X : Cx} {x : Str} {p pos : Pos} {e : Expr} {es : List Expr} {t : TA} {id T : String} {r : List V → Hp → VK → Prop}

def tCB (r : List V → Hp → VK → Prop) (t : TA) : TE := fun σ H Q => t σ H fun vs H1 => r vs H1 Q
/-- f(e, ..), f a built-in function -/
theorem pe_callB (hc : CallR X (.builtin id) r) (hg : Gl X x) (hm : X.mg x = none) (hv : bootBuiltins x = some (.builtin id)) (ha : PA X (e :: es) t) (hn : x ≠ "__name__" := by decide) (hdb : (x == ("__debug__" : Str)) = false := by decide)
    (he : starEach (e :: es) X.env = (false, eval e X.env) :: starEach es X.env := by rfl) (hpl : (backTo pos (starEach es X.env)).any (·.1) = false := by rfl) : PE X (.Call (.Name x p) (e :: es) [] pos) (tCB r t) := by
  intro pins s σ H Q I h
  refine wpAny_Call_Name_kw (ld_blt I hg hm hv ?_ hn hdb)
  exact PyProof.Rows.callWith_builtin1 (thn (ha pos pins s σ H _ I h) fun us s1 ⟨vs, H1, I1, r1, q1⟩ => hc pins s1 σ H1 vs us Q I1 r1 q1) he hpl
/-- T(e, ..), T a built-in type -/
theorem pe_callTy (hc : CallR X (.type T) r) (hg : Gl X x) (hm : X.mg x = none) (hv : bootBuiltins x = some (.type T)) (ha : PA X (e :: es) t) (hn : x ≠ "__name__" := by decide) (hdb : (x == ("__debug__" : Str)) = false := by decide)
    (he : starEach (e :: es) X.env = (false, eval e X.env) :: starEach es X.env := by rfl) (hpl : (backTo pos (starEach es X.env)).any (·.1) = false := by rfl) : PE X (.Call (.Name x p) (e :: es) [] pos) (tCB r t) := by
  intro pins s σ H Q I h
  refine wpAny_Call_Name_kw (ld_blt I hg hm hv ?_ hn hdb)
  exact PyProof.Rows.callWith_type1 (thn (ha pos pins s σ H _ I h) fun us s1 ⟨vs, H1, I1, r1, q1⟩ => hc pins s1 σ H1 vs us Q I1 r1 q1) he hpl
end
end L2

namespace HT
open PySem PyProof.Rows

/-- t < u of tuples of ints -/
def lexLt : List Int → List Int → Bool
  | [], [] => false
  | [], _ :: _ => true
  | _ :: _, [] => false
  | x :: xs, y :: ys => if x = y then lexLt xs ys else decide (x < y)
section
open PySem.SeqAt
open PySem.AutoSeq1 (wpAny_loadPart')
open PySem.MeetsSeq PySem.MeetsSeq2 PySem.MeetsSeq3

end

section
variable {prog : Program} {w : World} {A : Around} {E : Value → Shared → Prop} {s : Shared}

/-! ### t[a:b], not the whole -/
/-- a slice's bound as a place among n (d where it is left out) -/
def sIx (n d : Nat) : Option Int → Nat
  | none => d
  | some v => if v < 0 then (v + (n : Int)).toNat else min v.toNat n
end
end HT

namespace L2
open PySem PySem.Spec PyProof.Rows

/-! ### the parts of a slice -/
abbrev TO := St → Hp → (Option Int → Hp → Prop) → Prop
/-- a slice's part (left out, or an int) -/
def PO (X : Cx) (e : Option Expr) (t : TO) : Prop :=
  ∀ (pins : List (Addr × Obj)) (s : Shared) (σ : St) (H : Hp) (Q : Option Int → Hp → Prop), Inv X pins σ H s → t σ H Q →
    wpAny (model X.prog X.w) X.A (evalPart e X.env) (fun u s' => ∃ o H', Inv X pins σ H' s' ∧ IsPart u o ∧ Q o H') X.xe s
def tNoPart : TO := fun _ H Q => Q none H
def tPart (t : TE) : TO := fun σ H Q => t σ H fun x H1 => ∃ i, x = .int i ∧ Q (some i) H1

section
variable {X : Cx} {e : Expr} {te : TE} {lo hi : Option Expr} {tl th : TO} {pos p2 : Pos}

theorem po_none : PO X none tNoPart := by
  intro pins s σ H Q I h
  rw [evalPart_none]
  exact wpAny_pure ⟨none, H, I, .none, h⟩
theorem po_some (h : PE X e te) : PO X (some e) (tPart te) := by
  intro pins s σ H Q I hw
  rw [evalPart_some]
  refine thn (h pins s σ H _ I hw) fun u s1 ⟨x, H1, I1, r1, q1⟩ => ?_
  obtain ⟨i, rfl, q⟩ := q1
  obtain ⟨t, rfl⟩ := r1
  exact ⟨some i, H1, I1, .int i t, q⟩

/-- what a slice of a value is, by values: the slice object stands at sl -/
def SlR (X : Cx) (r : V → Option Int → Option Int → Hp → VK → Prop) : Prop :=
  ∀ (pins : List (Addr × Obj)) (s : Shared) (σ : St) (H : Hp) (x : V) (v vl vu : Value) (lo hi : Option Int) (sl : Addr) (Q : VK), Inv X pins σ H s → RelV x v → s.heap.IsSliceOf sl vl vu .none → IsPart vl lo → IsPart vu hi → r x lo hi H Q →
    ∃ T id, typeLookup (.type T) "__getitem__" = pure (some (.builtin id)) ∧ s.TypeIs v T ∧ wpAny (model X.prog X.w) X.A (getItem v (.ref sl)) (EP X pins σ Q) X.xe s
theorem SlR.or {r r' : V → Option Int → Option Int → Hp → VK → Prop} (h : SlR X r) (h' : SlR X r') : SlR X (fun x lo hi H Q => r x lo hi H Q ∨ r' x lo hi H Q) := by
  intro pins s σ H x v vl vu lo hi sl Q I rx hs pl pu q
  rcases q with q | q
  · exact h pins s σ H x v vl vu lo hi sl Q I rx hs pl pu q
  · exact h' pins s σ H x v vl vu lo hi sl Q I rx hs pl pu q
def tSl (r : V → Option Int → Option Int → Hp → VK → Prop) (te : TE) (tl th : TO) : TE := fun σ H Q => te σ H fun x H1 => tl σ H1 fun l H2 => th σ H2 fun u H3 => r x l u H3 Q
/-- a[lo:hi], any a -/
theorem pe_slice {r : V → Option Int → Option Int → Hp → VK → Prop} (hr : SlR X r) (he : PE X e te) (hl : PO X lo tl) (hu : PO X hi th) : PE X (.Subscript e (.Slice lo hi none p2) pos) (tSl r te tl th) := by
  intro pins s σ H Q I h
  refine Subscript_ (thn (he pins s σ H _ I h) fun v s1 ⟨x, H1, I1, r1, q1⟩ => ?_)
  refine wpAny_Slice (thn (hl pins s1 σ H1 _ I1 q1) fun vl s2 ⟨l, H2, I2, pl, q2⟩ => thn (hu pins s2 σ H2 _ I2 q2) fun vu s3 ⟨u, H3, I3, pu, q3⟩ => ?_)
  rw [evalPart_none]
  refine wpAny_pure ?_
  have I4 : Inv X pins σ H3 { s3 with heap := s3.heap.push { cls := .type "slice", data := .fields #[vl, vu, .none] } } := I3.kept (t' := s3.toks) fun b ob q => Heap.get?_push_of_some _ q
  obtain ⟨T, id, hT, ht, hg⟩ := hr pins { s3 with heap := s3.heap.push { cls := .type "slice", data := .fields #[vl, vu, .none] } } σ H3 x v vl vu l u s3.heap.objs.size Q I4 r1 (Heap.IsSliceOf.new ..) pl pu q3
  show wpAny (model X.prog X.w) X.A (subscriptTail e (.Slice lo hi none p2) v (.ref s3.heap.objs.size)) (EP X pins σ Q) X.xe { s3 with heap := s3.heap.push { cls := .type "slice", data := .fields #[vl, vu, .none] } }
  exact tail_any (ops := [.ref s3.heap.objs.size, v]) ht hT hg (by with_unfolding_all rfl)

/-- the items of xs[lo:hi] -/
def cutV (xs : List V) (lo hi : Option Int) : List V := (xs.drop (HT.sIx xs.length 0 lo)).take (HT.sIx xs.length xs.length hi - HT.sIx xs.length 0 lo)
/-- t[lo:hi], not the whole of it (the whole would be t itself) -/
def rSlT (K : PySem.W.Frag) : V → Option Int → Option Int → Hp → VK → Prop := fun x lo hi H Q => ∃ a xs, x = .ref a ∧ SqT K H a xs ∧
  ¬ (HT.sIx xs.length 0 lo = 0 ∧ HT.sIx xs.length xs.length hi = xs.length) ∧ ∀ p, H p = none → Q (.ref p) (upd H p (.tup (cutV xs lo hi)))
/-! ### t < u, t + u -/
def rLtT (K : PySem.W.Frag) : R2 := fun x y H Q => ∃ a b ns ms, x = .ref a ∧ y = .ref b ∧ SqT K H a (ns.map V.int) ∧ SqT K H b (ms.map V.int) ∧ Q (.bl (HT.lexLt ns ms)) H
/-- t + u, t not empty: u empty gives t itself -/
def rCatT (K : PySem.W.Frag) : R2 := fun x y H Q => ∃ a b xs ys, x = .ref a ∧ y = .ref b ∧ SqT K H a xs ∧ SqT K H b ys ∧ xs ≠ [] ∧ xs.length + ys.length ≤ sizeLine ∧
  (ys = [] → Q (.ref a) H) ∧ (ys ≠ [] → ∀ p, H p = none → Q (.ref p) (upd H p (.tup (xs ++ ys))))
end
end L2

namespace L2
open PySem PySem.Spec PyProof.Rows

/-! ### places -/
/-- the place that an index of any sign means -/
def ixN (n : Nat) (i : Int) : Option Nat := if 0 ≤ i then (if i < n then some i.toNat else none) else if -(n : Int) ≤ i then some (i + n).toNat else none
def atI {α : Type} (xs : List α) (i : Int) : Option α := (ixN xs.length i).bind fun j => xs[j]?
theorem ixN_seq {n : Nat} {i : Int} {j : Nat} (h : ixN n i = some j) : seqIndex? i n = some j ∧ j < n ∧ -(n : Int) ≤ i ∧ i < n := by
  unfold ixN at h
  by_cases h0 : 0 ≤ i
  · rw [if_pos h0] at h
    by_cases h1 : i < n
    · rw [if_pos h1] at h
      have e : i.toNat = j := Option.some.inj h
      exact ⟨by rw [seqIndex_of h0 h1, e], by omega, by omega, h1⟩
    · rw [if_neg h1] at h; cases h
  · rw [if_neg h0] at h
    by_cases h1 : -(n : Int) ≤ i
    · rw [if_pos h1] at h
      have e : (i + n).toNat = j := Option.some.inj h
      exact ⟨by rw [seqIndex_neg (by omega) h1, e], by omega, h1, by omega⟩
    · rw [if_neg h1] at h; cases h
theorem atI_get {α : Type} {xs : List α} {i : Int} {v : α} (h : atI xs i = some v) : ∃ j, seqIndex? i xs.length = some j ∧ xs[j]? = some v ∧ j < xs.length ∧ -(xs.length : Int) ≤ i ∧ i < xs.length := by
  unfold atI at h
  cases e : ixN xs.length i with
  | none => rw [e] at h; cases h
  | some j =>
    rw [e] at h
    obtain ⟨h1, h2, h3, h4⟩ := ixN_seq e
    exact ⟨j, h1, h, h2, h3, h4⟩
theorem atI_nat {α : Type} {xs : List α} {j : Nat} {v : α} (h : xs[j]? = some v) : atI xs (j : Int) = some v := by
  have hj : j < xs.length := (List.getElem?_eq_some_iff.mp h).1
  have e : ixN xs.length (j : Int) = some j := by
    unfold ixN
    rw [if_pos (by omega), if_pos (by omega)]; simp
  unfold atI; rw [e]; exact h
/-! ### what may be subscripted -/
/-- what stands as an index of a plain subscript -/
def PlainIx (b : Expr) : Prop := ∀ o i, subscripted b false o i = operate [o, i] (getItem o i)
/-- a subscript by values -/
def IxR (X : Cx) (r : R2) : Prop :=
  ∀ (value slice : Expr) (pins : List (Addr × Obj)) (s : Shared) (σ : St) (H : Hp) (x y : V) (v u : Value) (Q : VK), Inv X pins σ H s → RelV x v → RelV y u → r x y H Q →
    subscripted slice false v u = operate [v, u] (getItem v u) → wpAny (model X.prog X.w) X.A (subscriptTail value slice v u) (EP X pins σ Q) X.xe s
/-- a call of a builtin's method by values: the receiver, the arguments -/
def MtR (X : Cx) (id : String) (r : V → List V → Hp → VK → Prop) : Prop :=
  ∀ (pins : List (Addr × Obj)) (s : Shared) (σ : St) (H : Hp) (x : V) (xs : List V) (v : Value) (us : List Value) (Q : VK), Inv X pins σ H s → RelV x v → Vals xs us → r x xs H Q →
    wpAny (model X.prog X.w) X.A (call (.builtin id) (v :: us)) (EP X pins σ Q) X.xe s
section
variable {X : Cx} {a b : Expr} {ta tb : TE} {pos : Pos}
theorem IxR.or {r r' : R2} (h : IxR X r) (h' : IxR X r') : IxR X (fun x y H Q => r x y H Q ∨ r' x y H Q) := by
  intro value slice pins s σ H x y v u Q I rx ry q hs
  rcases q with q | q
  · exact h value slice pins s σ H x y v u Q I rx ry q hs
  · exact h' value slice pins s σ H x y v u Q I rx ry q hs
theorem MtR.or {id : String} {r r' : V → List V → Hp → VK → Prop} (h : MtR X id r) (h' : MtR X id r') : MtR X id (fun x xs H Q => r x xs H Q ∨ r' x xs H Q) := by
  intro pins s σ H x xs v us Q I rx rs q
  rcases q with q | q
  · exact h pins s σ H x xs v us Q I rx rs q
  · exact h' pins s σ H x xs v us Q I rx rs q
/-- a[b] -/
theorem pe_ix {r : R2} (hr : IxR X r) (ha : PE X a ta) (hb : PE X b tb) (hs : PlainIx b) : PE X (.Subscript a b pos) (tOp r ta tb) := by
  intro pins s σ H Q I h
  exact Subscript_ (binT ha hb I h fun v u s2 x y H2 I2 rx ry q => hr a b pins s2 σ H2 x y v u Q I2 rx ry q (hs _ _))

def rIxL (K : PySem.W.Frag) : R2 := fun x y H Q => ∃ p xs i v, x = .ref p ∧ y = .int i ∧ SqL K H p xs ∧ atI xs i = some v ∧ Q v H
def rIxT (K : PySem.W.Frag) : R2 := fun x y H Q => ∃ p xs i v, x = .ref p ∧ y = .int i ∧ SqT K H p xs ∧ atI xs i = some v ∧ Q v H
def rIxS : R2 := fun x y H Q => ∃ z i c, x = .str z ∧ y = .int i ∧ z.length ≤ sizeLine ∧ atI z.cps.toList i = some c ∧ Q (.str ⟨#[c]⟩) H
theorem ix_list : IxR X (rIxL X.K) := by
  intro value slice pins s σ H x y v u Q I rx ry h hs
  obtain ⟨p, xs, i, z, rfl, rfl, hq, he, q⟩ := h
  cases rx
  obtain ⟨t, rfl⟩ := ry
  obtain ⟨its, r, pl, hz⟩ := I.list hq
  obtain ⟨j, h1, h2, h3, h4, h5⟩ := atI_get he
  obtain ⟨w, ew, rw'⟩ := r.get h2
  have hl := r.length
  have hn := line63
  have fin : EP X pins σ Q w s := ⟨z, H, I, rw', q⟩
  by_cases h0 : 0 ≤ i
  · have hj : i.toNat = j := by
      rw [seqIndex_of h0 h5] at h1
      exact Option.some.inj h1
    exact item_listR pl.isList h0 (by omega) (by rw [hj]; simpa using ew) fin hs
  · have hj : (i + (its.toArray.size : Int)).toNat = j := by
      rw [seqIndex_neg (by omega) h4] at h1
      rw [List.size_toArray, ← hl]
      exact Option.some.inj h1
    exact subscriptTail_builtinR (x := w) pl.isList.typeIs slot_list_getitem.lookup
      (wpAny_getItem_list_neg (Q := fun r s' => r = w ∧ EP X pins σ Q r s') pl.isList (by omega) (by rw [List.size_toArray] <;> omega) (by omega) (by rw [hj]; simpa using ew) ⟨rfl, fin⟩) hs
theorem ix_tup : IxR X (rIxT X.K) := by
  intro value slice pins s σ H x y v u Q I rx ry h hs
  obtain ⟨p, xs, i, z, rfl, rfl, hq, he, q⟩ := h
  cases rx
  obtain ⟨t, rfl⟩ := ry
  obtain ⟨its, r, pl, hz⟩ := I.tuple hq
  obtain ⟨j, h1, h2, h3, h4, h5⟩ := atI_get he
  obtain ⟨w, ew, rw'⟩ := r.get h2
  have hl := r.length
  have hn := line63
  have fin : EP X pins σ Q w s := ⟨z, H, I, rw', q⟩
  exact subscriptTail_builtinR (x := w) pl.typeIs slot_tuple_getitem.lookup
    (getItem_tuple (j := j) (Q := fun r s' => r = w ∧ EP X pins σ Q r s') pl (by omega) (by omega) (by rw [List.size_toArray, ← hl]; exact h1) (by simpa using ew) ⟨rfl, fin⟩) hs
/-- list, tuple or str -/
def rIx (K : PySem.W.Frag) : R2 := fun x y H Q => rIxL K x y H Q ∨ rIxT K x y H Q ∨ rIxS x y H Q
/-! ### xs[i] = v, any sign -/
theorem Inv.lst {pins : List (Addr × Obj)} {σ : St} {H : Hp} {s : Shared} {p : Addr} {xs : List V} (I : Inv X pins σ H s) (h : H p = some (.lst xs)) :
    ∃ (its : List Value) (n : Nat), Vals xs its ∧ s.heap.get? p = some { cls := .type "list", data := .seq its.toArray n } ∧ xs.length ≤ sizeLine := by
  obtain ⟨z, its, n, r, e⟩ := I.hok p _ h
  exact ⟨its, n, r, e, z⟩
def rSetL : V → V → V → Hp → (Hp → Prop) → Prop := fun o i v H Q => ∃ p xs k j, o = .ref p ∧ i = .int k ∧ H p = some (.lst xs) ∧ ixN xs.length k = some j ∧ Q (upd H p (.lst (xs.set j v)))
/-! ### slices -/
/-- xs[lo:hi] of a list: a new list -/
def rSlL (K : PySem.W.Frag) : V → Option Int → Option Int → Hp → VK → Prop := fun x lo hi H Q => ∃ a xs, x = .ref a ∧ SqL K H a xs ∧ ∀ p, H p = none → Q (.ref p) (upd H p (.lst (cutV xs lo hi)))
/-! ### in, not in: flat items -/
def flatV : V → Bool
  | .non => true
  | .bl _ => true
  | .int _ => true
  | .str _ => true
  | _ => false
/-- == of flat values -/
def eqV : V → V → Bool
  | .non, .non => true
  | .bl a, .bl b => a == b
  | .bl a, .int b => (if a then 1 else 0) == b
  | .int a, .bl b => a == (if b then 1 else 0)
  | .int a, .int b => a == b
  | .str a, .str b => a == b
  | _, _ => false
theorem eqAt_V {A : Around} {s : Shared} {y x : V} {u v : Value} (ry : RelV y u) (rx : RelV x v) (fy : flatV y = true) (fx : flatV x = true) : SeqAt.EqAt A s u v (eqV y x) := by
  cases y with
  | non =>
    cases ry
    cases x with
    | non => cases rx; exact SeqAt.EqAt.same _
    | bl b => cases rx; exact SeqAt.EqAt.none_bool b
    | int b => obtain ⟨t, rfl⟩ := rx; exact SeqAt.EqAt.none_int b t
    | str b => obtain ⟨t, rfl⟩ := rx; exact SeqAt.EqAt.none_str b t
    | _ => exact absurd (show false = true from fx) Bool.false_ne_true
  | bl a =>
    cases ry
    cases x with
    | non => cases rx; exact SeqAt.EqAt.bool_none a
    | bl b => cases rx; exact SeqAt.EqAt.bool_bool a b
    | int b => obtain ⟨t, rfl⟩ := rx; exact SeqAt.EqAt.bool_int a b t
    | str b => obtain ⟨t, rfl⟩ := rx; exact SeqAt.EqAt.bool_str a b t
    | _ => exact absurd (show false = true from fx) Bool.false_ne_true
  | int a =>
    obtain ⟨t', rfl⟩ := ry
    cases x with
    | non => cases rx; exact SeqAt.EqAt.int_none a t'
    | bl b => cases rx; exact SeqAt.EqAt.int_bool a t' b
    | int b => obtain ⟨t, rfl⟩ := rx; exact SeqAt.EqAt.int_int a t' b t
    | str b => obtain ⟨t, rfl⟩ := rx; exact SeqAt.EqAt.int_str a t' b t
    | _ => exact absurd (show false = true from fx) Bool.false_ne_true
  | str a =>
    obtain ⟨t', rfl⟩ := ry
    cases x with
    | non => cases rx; exact SeqAt.EqAt.str_none a t'
    | bl b => cases rx; exact SeqAt.EqAt.str_bool a t' b
    | int b => obtain ⟨t, rfl⟩ := rx; exact SeqAt.EqAt.str_int a t' b t
    | str b => obtain ⟨t, rfl⟩ := rx; exact SeqAt.EqAt.str_str a t' b t
    | _ => exact absurd (show false = true from fx) Bool.false_ne_true
  | _ => exact absurd (show false = true from fy) Bool.false_ne_true
/-- the items' answers, read off the values (a value's own answer does not lean on its token) -/
def eqU (x : V) (u : Value) : Bool := match u with
  | .none => eqV .non x
  | .bool b => eqV (.bl b) x
  | .int i _ => eqV (.int i) x
  | .str z _ => eqV (.str z) x
  | _ => false
def inV (x : V) (xs : List V) : Bool := xs.any fun y => eqV y x
/-- x in a list or tuple of flat items -/
def rIn (K : PySem.W.Frag) (neg : Bool) : R2 := fun x y H Q => ∃ p xs, y = .ref p ∧ (SqL K H p xs ∨ SqT K H p xs) ∧ flatV x = true ∧ xs.all flatV = true ∧ Q (.bl (if neg then !inV x xs else inV x xs)) H
/-! ### len, list(x), tuple(x) of any list or tuple that is read -/
theorem call_len_seq : CallR X (.builtin "len") (fun xs H Q => ∃ p ys, xs = [.ref p] ∧ (SqL X.K H p ys ∨ SqT X.K H p ys) ∧ Q (.int ys.length) H) := by
  intro pins s σ H xs us Q I r h
  obtain ⟨p, ys, rfl, hq, q⟩ := h
  obtain ⟨u, rfl, rx⟩ := vals1 r
  cases rx
  have hn := line63
  rcases hq with hq | hq
  · obtain ⟨its, r', pl, hz⟩ := I.list hq
    have hlen := r'.length
    exact Calls.call_len_list pl.isList (by simp only [List.size_toArray] <;> omega) ⟨.int ys.length, H, I.tok _, ⟨s.toks + 1, by rw [List.size_toArray, hlen]⟩, q⟩
  · obtain ⟨its, r', pl, hz⟩ := I.tuple hq
    have hlen := r'.length
    exact len_tuple pl (by simp only [List.size_toArray] <;> omega) ⟨.int ys.length, H, I.tok _, ⟨s.toks + 1, by rw [List.size_toArray, hlen]⟩, q⟩
theorem call_len_str : CallR X (.builtin "len") (fun xs H Q => ∃ z, xs = [.str z] ∧ z.length ≤ sizeLine ∧ Q (.int z.length) H) := by
  intro pins s σ H xs us Q I r h
  obtain ⟨z, rfl, hz, q⟩ := h
  obtain ⟨u, rfl, t, rfl⟩ := vals1 r
  have hn := line63
  exact len_str (by omega) ⟨.int z.length, H, I.tok _, ⟨_, rfl⟩, q⟩
theorem CallR.or {f : Value} {r r' : List V → Hp → VK → Prop} (h : CallR X f r) (h' : CallR X f r') : CallR X f (fun xs H Q => r xs H Q ∨ r' xs H Q) := by
  intro pins s σ H xs us Q I rs q
  rcases q with q | q
  · exact h pins s σ H xs us Q I rs q
  · exact h' pins s σ H xs us Q I rs q
/-! ### the call of a builtin's method: o.m(..) -/
/-- the value is of that builtin type -/
def tyV (K : PySem.W.Frag) (T : String) (x : V) (H : Hp) : Prop := match x with
  | .str _ => T = "str"
  | .int _ => T = "int"
  | .ref p => (T = "list" ∧ ∃ xs, SqL K H p xs) ∨ (T = "tuple" ∧ ∃ o, K.lookup p = some o ∧ o.cls = .type "tuple" ∧ o.dict = none) ∨
      (T = "dict" ∧ ((∃ kvs, H p = some (.dK kvs)) ∨ ∃ kvs, H p = some (.dT kvs))) ∨ (T = "set" ∧ ∃ S n, H p = some (.set S n))
  | _ => False
theorem tyV_is {pins : List (Addr × Obj)} {σ : St} {H : Hp} {s : Shared} {T : String} {x : V} {v : Value} (I : Inv X pins σ H s) (r : RelV x v) (ty : tyV X.K T x H) :
    s.TypeIs v T ∧ ∀ a, v = .ref a → ∃ ob, s.heap.get? a = some ob ∧ ob.dict = none := by
  cases x with
  | str z =>
    obtain ⟨t, rfl⟩ := r
    cases (show T = "str" from ty)
    exact ⟨typeIs_str s z t, fun _ e => nomatch e⟩
  | int i =>
    obtain ⟨t, rfl⟩ := r
    cases (show T = "int" from ty)
    exact ⟨typeIs_int s i t, fun _ e => nomatch e⟩
  | ref p =>
    cases r
    rcases ty with ⟨rfl, xs, hq⟩ | ⟨rfl, o, hk, hc, hd⟩ | ⟨rfl, hk⟩ | ⟨rfl, S, n, hk⟩
    · obtain ⟨its, _, pl, _⟩ := I.list hq
      refine ⟨pl.isList.typeIs, fun a e => ?_⟩
      cases e
      obtain ⟨o, n, e, c, hd, _⟩ := pl
      exact ⟨o, e, hd⟩
    · refine ⟨⟨o, I.kIn p o hk, hc⟩, fun a e => ?_⟩
      cases e
      exact ⟨o, I.kIn _ o hk, hd⟩
    · have z : ∃ o, s.heap.get? p = some o ∧ o.ExactDict := by
        rcases hk with ⟨kvs, hk⟩ | ⟨kvs, hk⟩
        · obtain ⟨_, _, _, _, o, _, _, e, ex, _⟩ := I.hok p _ hk
          exact ⟨o, e, ex⟩
        · obtain ⟨_, _, _, _, o, _, _, e, ex, _⟩ := I.hok p _ hk
          exact ⟨o, e, ex⟩
      obtain ⟨o, e, ex⟩ := z
      refine ⟨⟨o, e, ex.1⟩, fun a e2 => ?_⟩
      cases e2
      exact ⟨o, e, ex.2.1⟩
    · obtain ⟨o, _, _, _, e, ex, _⟩ := I.hok p _ hk
      refine ⟨⟨o, e, ex.1⟩, fun a e2 => ?_⟩
      cases e2
      exact ⟨o, e, ex.2.1⟩
  | _ => exact False.elim ty
def tBM0 (K : PySem.W.Frag) (T : String) (r : V → List V → Hp → VK → Prop) (to : TE) : TE := fun σ H Q => to σ H fun x H1 => tyV K T x H1 ∧ r x [] H1 Q
def tBM (K : PySem.W.Frag) (T : String) (r : V → List V → Hp → VK → Prop) (to : TE) (t : TA) : TE := fun σ H Q => to σ H fun x H1 => tyV K T x H1 ∧ t σ H1 fun xs H2 => r x xs H2 Q
variable {o e : Expr} {es : List Expr} {to : TE} {t : TA} {name : Str} {apos cpos : Pos} {T id : String} {r : V → List V → Hp → VK → Prop}
theorem pe_bm (pa : PlainAttrs T) (slot : Slot T name id) (hty : typeOf (.builtin id) = pure (.type "method_descriptor")) (hm : MtR X id r) (ho : PE X o to) (ha : PA X (e :: es) t)
    (hbase : attributeBase o name X.env (eval o X.env) = eval o X.env := by rfl)
    (hfew : ((backTo cpos (starEach (e :: es) X.env)).all (fun x => !x.1) && (backToKw cpos (keywordEach [] X.env)).all (fun x => x.1.isSome)
      && decide ((e :: es).length + ([] : List Keyword).length + (if ([] : List Keyword).isEmpty then 0 else 1) < 30)) = true := by rfl)
    (hline : (apos.endLine == cpos.line) = true := by rfl) (hs : starEach (e :: es) X.env = (false, eval e X.env) :: starEach es X.env := by rfl) (hplain : (backTo cpos (starEach es X.env)).any (·.1) = false := by rfl) :
    PE X (.Call (.Attribute o name apos) (e :: es) [] cpos) (tBM X.K T r to t) := by
  intro pins s σ H Q I h
  refine wpAny_Call_method_late hbase hfew hline rfl (thn (ho pins s σ H _ I h) fun v s1 ⟨x, H1, I1, r1, ty, q1⟩ => ?_)
  obtain ⟨h1, h2⟩ := tyV_is I1 r1 ty
  refine ⟨T, id, pa, slot, hty, h1, h2, ?_⟩
  have hA := ha cpos pins s1 σ H1 _ I1 q1
  rw [hs] at hA ⊢
  refine Calls.callWith_builtin (by show (false || (backTo cpos (starEach es X.env)).any (·.1)) = false; rw [hplain] <;> rfl) (Calls.evalArgs_plain ?_)
  exact thn hA fun us s2 ⟨vs, H2, I2, r2, q2⟩ => hm pins s2 σ H2 x vs v us Q I2 r1 r2 q2
/- xs.append(e), list.index on a module's tuple .. are MtR facts of 06m -/
end
end L2

namespace L2
open PySem PySem.Spec PyProof.Rows

def MtM (X : Cx) (id : String) (r : V → List V → Hp → VK → Prop) : Prop :=
  ∀ (pins : List (Addr × Obj)) (s : Shared) (σ : St) (H : Hp) (x : V) (xs : List V) (v : Value) (us : List Value) (Q : VK), Inv X pins σ H s → RelV x v → Vals xs us → r x xs H Q →
    wpAny (model X.prog X.w) X.A (call (.builtin id) (v :: us)) (EP X pins σ Q) X.xe s

/-! ### lists of values -/
theorem Vals.one : ∀ {x : V} {us : List Value}, Vals [x] us → ∃ u, us = [u] ∧ RelV x u
  | _, _, .cons r .nil => ⟨_, rfl, r⟩
theorem Vals.two : ∀ {x y : V} {us : List Value}, Vals [x, y] us → ∃ u v, us = [u, v] ∧ RelV x u ∧ RelV y v
  | _, _, _, .cons r (.cons q .nil) => ⟨_, _, rfl, r, q⟩
theorem Vals.zero : ∀ {us : List Value}, Vals [] us → us = []
  | _, .nil => rfl
theorem Vals.dropLast {xs : List V} {us : List Value} (h : Vals xs us) : Vals xs.dropLast us.dropLast := by
  induction h with
  | nil => exact .nil
  | cons r t ih =>
    cases t with
    | nil => exact .nil
    | cons q t' => exact .cons r ih
theorem Vals.eraseIdx : ∀ {xs : List V} {us : List Value} (i : Nat), Vals xs us → Vals (xs.eraseIdx i) (us.eraseIdx i)
  | _, _, _, .nil => .nil
  | _, _, 0, .cons _ t => t
  | _, _, i + 1, .cons r t => .cons r (Vals.eraseIdx i t)
theorem Vals.reverse {xs : List V} {us : List Value} (h : Vals xs us) : Vals xs.reverse us.reverse := by
  induction h with
  | nil => exact .nil
  | cons r t ih => rw [List.reverse_cons, List.reverse_cons]; exact Vals.append ih (.cons r .nil)
section
variable {X : Cx} {pins : List (Addr × Obj)} {σ : St} {H : Hp} {s : Shared} {l b : Addr} {xs ys zs : List V}

/-! ### the two steps: a tracked list is rewritten, a new list is laid -/
theorem Inv.lset {its its' : List Value} {n : Nat} {f : Array Value → Array Value} {t' : Nat} (I : Inv X pins σ H s) (hH : H l = some (.lst xs))
    (e : s.heap.get? l = some { cls := .type "list", data := .seq its.toArray n }) (hf : f its.toArray = its'.toArray) (hv : Vals ys its') (hz : ys.length ≤ sizeLine) :
    Inv X pins σ (upd H l (.lst ys)) { s with heap := s.heap.update l (Obj.mapSeq f), toks := t' } := by
  have q := PySem.IsL.update e f
  rw [hf] at q
  refine I.write (x := l) (e := l) (by rw [hH]; exact trivial) (.inl rfl) (fun b' u hb hu => (Heap.get?_update_other s.heap (Obj.mapSeq f) (Ne.symm hb)).trans hu) ⟨_, q⟩ ?_
  exact ⟨hz, its', _, hv, q⟩
theorem Inv.fresh (I : Inv X pins σ H s) : H s.heap.objs.size = none := I.hok.fresh (Nat.le_refl _)
theorem Inv.lstM (I : Inv X pins σ H s) (hH : H l = some (.lst xs)) : xs.length ≤ sizeLine ∧ ∃ (its : List Value) (n : Nat), Vals xs its ∧ xs.length = its.length ∧ s.heap.get? l = some { cls := .type "list", data := .seq its.toArray n } := by
  obtain ⟨z, its, n, r, e⟩ := I.hok l _ hH
  exact ⟨z, its, n, r, r.length, e⟩

end

section
variable {X : Cx}

/-! ### methods -/
def rAppend : V → List V → Hp → VK → Prop := fun x vs H Q => ∃ l xs y, x = .ref l ∧ vs = [y] ∧ H l = some (.lst xs) ∧ xs.length < sizeLine ∧ Q .non (upd H l (.lst (xs ++ [y])))
theorem mt_append : MtM X "list.append" rAppend := by
  intro pins s σ H x vs v us Q I rx rv h
  obtain ⟨l, xs, y, rfl, rfl, hH, hz, q⟩ := h
  cases rx
  obtain ⟨u, rfl, ru⟩ := rv.one
  obtain ⟨z, its, n, r, hl, e⟩ := I.lstM hH
  refine call_meets F.slot_list_append ⟨_, e, rfl⟩ F.entry_list_append (F.args_list_append_2 _ _) (PySem.list_append l its.toArray n u (by rw [List.size_toArray]; omega)) ⟨e, ?_⟩
  refine ⟨.non, _, I.lset (its' := its ++ [u]) hH e (by simp) (r.append (.cons ru .nil)) ?_, rfl, q⟩
  rw [List.length_append, List.length_singleton]
  omega

def rExtend : V → List V → Hp → VK → Prop := fun x vs H Q => ∃ l b xs zs, x = .ref l ∧ vs = [.ref b] ∧ H l = some (.lst xs) ∧ H b = some (.lst zs) ∧ xs.length + zs.length ≤ sizeLine ∧ Q .non (upd H l (.lst (xs ++ zs)))
def rPop : V → List V → Hp → VK → Prop := fun x vs H Q => ∃ l xs y, x = .ref l ∧ vs = [] ∧ H l = some (.lst xs) ∧ xs[xs.length - 1]? = some y ∧ Q y (upd H l (.lst xs.dropLast))
def rPopAt : V → List V → Hp → VK → Prop := fun x vs H Q => ∃ l xs i k y, x = .ref l ∧ vs = [.int i] ∧ H l = some (.lst xs) ∧ -(2 ^ 63) ≤ i ∧ i < 2 ^ 63 ∧ seqIndex? i xs.length = some k ∧ xs[k]? = some y ∧ Q y (upd H l (.lst (xs.eraseIdx k)))
def rReverse : V → List V → Hp → VK → Prop := fun x vs H Q => ∃ l xs, x = .ref l ∧ vs = [] ∧ H l = some (.lst xs) ∧ Q .non (upd H l (.lst xs.reverse))
def rClear : V → List V → Hp → VK → Prop := fun x vs H Q => ∃ l xs, x = .ref l ∧ vs = [] ∧ H l = some (.lst xs) ∧ Q .non (upd H l (.lst []))
/-! ### list + list, list += list, list * int -/
def rCat : R2 := fun x y H Q => ∃ l b xs zs, x = .ref l ∧ y = .ref b ∧ H l = some (.lst xs) ∧ H b = some (.lst zs) ∧ xs.length + zs.length ≤ sizeLine ∧ ∀ p, H p = none → Q (.ref p) (upd H p (.lst (xs ++ zs)))
/-- a list times an int (a negative one is nothing) -/
def rRep : R2 := fun x y H Q => ∃ l k xs, x = .ref l ∧ y = .int k ∧ H l = some (.lst xs) ∧ -(2 ^ 63) ≤ k ∧ k < 2 ^ 63 ∧ xs.length * k.toNat ≤ sizeLine ∧
  ∀ p, H p = none → Q (.ref p) (upd H p (.lst (List.replicate k.toNat xs).flatten))
/-! ### del xs[i] -/
end

/-! ### xs[a:b] = ys -/
section
variable {prog : Program} {w : World} {A : Around} {E : Value → Shared → Prop} {s : Shared}
set_option maxRecDepth 100000 in
end

section
variable {X : Cx}
end
end L2

namespace Att
open PySem PySem.W PySem.Calls PyProof.Rows

/-! ### the script -/
theorem ints_of_wellAll {P : Params} {h : Heap} : ∀ (ns : List Int) (vs : List Value), WellAll P h vs (ns.map WData.int) → IntsAre vs ns := by
  intro ns
  induction ns with
  | nil =>
    intro vs w
    rw [List.map_nil] at w
    cases w
    exact .nil
  | cons n ns ih =>
    intro vs w
    rw [List.map_cons] at w
    cases w with
    | cons a b =>
      cases a
      exact .cons _ _ (ih _ b)

theorem script_of {l : OpenLaw} {n : Nat} (hn : l.most = some n) {P : Params} {h : Heap} {args : List WData} {vals : List Value}
    (hpre : l.row.toRowW.claim.pre args = true) (hwl : WellAll P h vals args) :
    ∃ a vs ns, vals = [Value.ref a] ∧ args = [WData.list (ns.map WData.int)] ∧ h.get? a = some { cls := .type "list", data := .seq vs.toArray } ∧ IntsAre vs ns ∧ ns.length ≤ n := by
  have hsh : WShape.hasAll [] args [.list .int] = true := (pre_splitW hpre).1
  have hc : l.pre.holds [] { args := args } = true := (pre_splitW hpre).2
  obtain ⟨d, r, rfl, h1, h2⟩ := hasAllW_cons hsh
  obtain rfl := hasAllW_nil h2
  obtain ⟨xs, rfl, h3⟩ := hasW_list h1
  obtain ⟨ns, rfl⟩ := items_int h3
  have hlen : ns.length ≤ n := by
    unfold OpenLaw.pre at hc
    have h4 : (WTm.not (.lt (.lit (.int (n : Int))) (.len (.arg 0)))).holds [] { args := [.list (ns.map .int)] } = true := by
      have h4 := (holds_andW hc).1
      rw [hn] at h4
      exact h4
    have h5 := condW_of h4 (w_not (w_lt w_lit (w_len_list (w_arg rfl))))
    rw [List.length_map] at h5
    refine Nat.le_of_not_lt fun q => ?_
    have q' : (n : Int) < ((ns.length : Nat) : Int) := by omega
    first
      | (rw [decide_eq_true q'] at h5; exact absurd h5 (by decide))
      | (simp at h5; omega)
  cases hwl with
  | cons w1 w2 =>
    cases w2
    cases w1 with
    | list ho hall => exact ⟨_, _, ns, rfl, rfl, ho, ints_of_wellAll ns _ hall, hlen⟩

theorem post_true (l : OpenLaw) (args : List WData) : l.row.toRowW.claim.post args (.bool true) args = true :=
  postW_of (r := l.row.toRowW) (X := (true == true))
    (show WShape.has [] (.bool true) .bool = true by first | rfl | decide | simp [WShape.has, WShape.arms, WShape.armsAll])
    (show (WTm.eq .res (.lit (.bool true))).value [] { args := args, res := some (.bool true), after := args } = some (.bool (true == true)) from w_eq_bool (w_res rfl) w_lit) rfl

/-! ### the attachment: holds_open's last premise (the goal 'hc' behind k_head) from a wpAny of the law's body -/
/-- the same from a codeAny of the CALL (for a layer whose function contracts speak of calls) -/
theorem attach_call {l : OpenLaw} {n : Nat} {q : Program} {loose : List Str} {XP : (Str → Option Value) → Heap → Prop} {YP : World → Heap → Prop} {d : DefRec}
    (hn : l.most = some n) (hdf : d.params.defaults = [])
    (call : ∀ (w : World) (s₀ s₁ : Shared) (mg mb : Str → Option Value) (fa : Addr) (o : Obj) (pm cd doc : Value) (a : Addr) (vs : List Value) (ns : List Int),
      Ground q loose [] XP w s₀ mg mb s₁.heap → YP w s₁.heap →
      s₁.heap.get? fa = some o → o.data = .func (docDef d.name d.params d.body d.scope pm cd doc) → s₁.heap.CodeRec cd d.name → mg d.name = some (.ref fa) →
      s₁.heap.get? a = some { cls := .type "list", data := .seq vs.toArray } → IntsAre vs ns → ns.length ≤ n → s₁.gens = #[] →
      codeAny (model l.prog w) callerA (.call (.ref fa) ⟨[.ref a], []⟩) (fun r s' => r = .ok (.ret (.bool true)) ∧ OldK s₁.heap s'.heap ∧ s'.os = s₁.os ∧ AllBare s'.gens) s₁) :
    WalkO q loose XP YP l.row.toRowW d [] (fun f vs => PySem.call f vs) := by
  intro w s₀ s₁ mg mb G Y fa o pm cd doc dV kV ho hd hcd hD hmg hg args vals as hpre hlay hrd hwl hlo
  obtain rfl : dV = .none := Dflts.none hD hdf
  obtain rfl : kV = .none := Dflts.noKw hD
  obtain ⟨a, vs, ns, rfl, rfl, hobj, hints, hlen⟩ := script_of hn hpre hwl
  refine enter_call (codeAny_mono (call w s₀ s₁ mg mb fa o pm cd doc a vs ns G Y ho (fd_plain hd) hcd hmg hobj hints hlen hg) fun r s' hq => ?_)
  obtain ⟨rfl, h2, h3, h4⟩ := hq
  exact ⟨.inl ⟨.bool true, .bool true, [], rfl, fun _ => rfl, .bool true, post_true l _, fun _ => ⟨List.Pairwise.nil, fun _ hm => (nomatch hm)⟩⟩, h2, h3, h4⟩

/-! ### rules over ANY heap (no ledger) from facts about the written part K: the library's own take a ledger (News) for what they write -/
section
variable {prog : Program} {w : World} {A : Around} {E : Value → Shared → Prop} {s : Shared} {K : Frag}

/-! the whole heap as the ledger: makes every rule that writes through a ledger a rule over any heap -/
def noObjs (h : Heap) : Heap := { h with objs := #[] }
def ledger (h : Heap) (L d : Addr) : List (Addr × Obj) := (List.range h.objs.size).filterMap fun a => if a = L ∨ a = d then none else (h.get? a).map fun o => (a, o)
end
end Att

namespace L2
open PySem PySem.Spec PyProof.Rows

theorem vals_ints : ∀ {vs : List Value} {ns : List Int}, IntsAre vs ns → Vals (ns.map V.int) vs
  | _, _, .nil => .nil
  | _, _, .cons n t h => .cons ⟨t, rfl⟩ (vals_ints h)

/-- nothing is tracked but the script, known to the object (or it is an object of the module) -/
def Only (H : Hp) : Prop := ∀ b, H b = none ∨ ∃ o xs, H b = some (.frz o (.lst xs))

/-- THE HEAD: the law's promise, at the heap behind the top. F, the promise of the law's def, may use that base is part of the heap (so K.In base, base.Ns mainGlobals mg stand in Mod) -/
theorem law_call {P : Program} {w : World} {K : PySem.W.Frag} {mg mb : Str → Option Value} {CX : CXT} {k : Nat} {fa a : Addr} {fd : FuncData} {x : Str} {sp : Sp} {s₁ : Shared} {vs : List Value} {ns : List Int}
    (KX : K.In s₁.heap) (hns : s₁.heap.Ns mainGlobals mg) (hb : s₁.heap.Ns builtinsNs mb) (hbb : ∀ x : Str, x ≠ "__name__" → mb x = bootBuiltins x) (hlim : s₁.heap.NoLimit) (hg : s₁.gens = #[])
    (ha : s₁.heap.get? a = some { cls := .type "list", data := .seq vs.toArray }) (hi : IntsAre vs ns) (hl : ns.length ≤ sizeLine) (hr : Room k callerA)
    (F : ∀ base : Heap, K.In base → base.Ns mainGlobals mg → FnOk P w K mg base CX k fa fd [x] sp) (hbind : ∀ (s : Shared) (u : Value), BindsTo s fd ⟨[u], []⟩ [(x, u)])
    (hsp : ∀ H : Hp, Only H → SqL K H a (ns.map V.int) → sp [.ref a] H (fun v _ => v = .bl true) fun _ _ _ => False)
    (hCX : ∀ H e s', CX [] H s₁ (fun _ _ _ => False) e s' → False) :
    codeAny (model P w) callerA (.call (.ref fa) ⟨[.ref a], []⟩) (fun r s' => r = .ok (.ret (.bool true)) ∧ OldK s₁.heap s'.heap ∧ s'.os = s₁.os ∧ AllBare s'.gens) s₁ := by
  have rv := vals_ints hi
  have lenV := hi.length
  -- from an abstract heap in which nothing but the script may be tracked
  have core : ∀ H : Hp, Only H → SqL K H a (ns.map V.int) → HOk P w H s₁.heap → (∀ b, H b ≠ none → b = a) → (H a ≠ none → K.lookup a = none) →
      codeAny (model P w) callerA (.call (.ref fa) ⟨[.ref a], []⟩) (fun r s' => r = .ok (.ret (.bool true)) ∧ OldK s₁.heap s'.heap ∧ s'.os = s₁.os ∧ AllBare s'.gens) s₁ := by
    intro H hO hS hok hA hK
    have base_of : ∀ {b : Addr} {o : Obj}, s₁.heap.get? b = some o → H b = none → (hidT s₁.heap H).get? b = some o := fun e n => hidT_get e n
    have noA : ∀ {b : Addr} {o : Obj} {es : Array DictEntry} {ep : Nat}, s₁.heap.get? b = some o → o.data = .dict es ep → H b = none := fun {b o es ep} e d => by
      cases q : H b with
      | none => rfl
      | some u =>
        have e' : b = a := hA b (by rw [q]; simp)
        subst e'
        rw [ha] at e; cases e
        have d' : Data.seq vs.toArray _ = Data.dict es ep := d
        cases d'
    have nsK : ∀ {b : Addr} {m : Str → Option Value}, s₁.heap.Ns b m → (hidT s₁.heap H).Ns b m := fun {b m} ⟨o, es, ep, e, d, r⟩ => ⟨o, es, ep, base_of e (noA e d), d, r⟩
    have hKb : K.In (hidT s₁.heap H) := fun b o e => base_of (KX b o e) (by
      cases q : H b with
      | none => rfl
      | some u =>
        have e' : b = a := hA b (by rw [q]; simp)
        subst e'
        rw [hK (by rw [q]; simp)] at e; cases e)
    have hM : Mod K mg (hidT s₁.heap H) := ⟨hKb, nsK hns, ⟨mb, nsK hb, hbb⟩, let ⟨mc, h1, h2⟩ := hlim; ⟨mc, nsK h1, h2⟩⟩
    have e0 : Env0 P w K mg (hidT s₁.heap H) callerA [] s₁ H := ⟨rfl, hM, fun b o e => of_hidT e, Nat.le_of_eq (hidT_size _ _), trivial, fun b hb => absurd (show b ∈ ([] : List Addr) from hb) (by simp), hok, .of_eq hg⟩
    refine codeAny_mono ((F _ hKb (nsK hns)).run callerA [] s₁ H ⟨[.ref a], []⟩ [.ref a] [.ref a] _ _ hr e0 (hbind s₁ (.ref a)) (.cons rfl .nil) (hsp H hO hS)) fun r s' h => ?_
    cases r with
    | error e => exact (hCX H e s' h).elim
    | ok fl =>
      cases fl with
      | next => exact False.elim h
      | brk => exact False.elim h
      | cont => exact False.elim h
      | ret u =>
        obtain ⟨v, H', os, bare, un, hok', r', q⟩ := h
        have q' : v = .bl true := q
        subst q'
        obtain rfl : u = Value.bool true := r'
        refine ⟨rfl, OldK.of_keep fun b o e => ?_, os, bare⟩
        cases q : H b with
        | none => exact un.keep b o e q (by intro z; exact absurd (show b ∈ ([] : List Addr) from z) (by simp)) (by simp)
        | some u =>
          rcases hO b with z | ⟨ob, xs, z⟩
          · rw [q] at z; cases z
          · have z2 := un.frzs b ob _ z
            obtain ⟨e1, _⟩ := hok b _ z
            obtain ⟨e2, _⟩ := hok' b _ z2
            rw [e] at e1; cases e1
            exact e2
  cases hk : K.lookup a with
  | some o =>
    -- the script is one of the module's own objects
    have e := KX a o hk
    rw [ha] at e
    cases e
    refine core (fun _ => none) (fun _ => .inl rfl) (.inr ⟨_, vs.toArray, _, hk, rfl, rfl, rfl, by rw [List.size_toArray, lenV]; exact hl, by simpa using rv⟩) (fun b u z => by have z' : (none : Option HO) = some u := z; cases z') (fun b z => absurd rfl z) fun z => absurd rfl z
  | none =>
    refine core (fun b => if b = a then some (.frz { cls := .type "list", data := .seq vs.toArray } (.lst (ns.map V.int))) else none) (fun b => ?_) (.inl (.inr ⟨{ cls := .type "list", data := .seq vs.toArray }, if_pos rfl⟩)) (fun b u z => ?_) (fun b z => ?_) fun _ => hk
    · by_cases hb : b = a
      · exact .inr ⟨_, _, if_pos hb⟩
      · exact .inl (if_neg hb)
    · by_cases hb : b = a
      · have z' := (if_pos hb).symm.trans z
        cases z'
        subst hb
        exact ⟨ha, by rw [List.length_map]; exact hl, vs, _, rv, ha⟩
      · have z' := (if_neg hb).symm.trans z
        cases z'
    · by_cases hb : b = a
      · exact hb
      · exact absurd (if_neg hb) z
end L2

namespace L2
open PySem PySem.Spec PyProof.Rows

abbrev KOf {K : PySem.W.Frag} {h : Heap} (_ : K.In h) : PySem.W.Frag := K

/-- the goal that k_head leaves (case hc), from the law's promise. F gives the function object fd (K's own) once, then the promise over every base -/
theorem walk_of {l : PySem.W.OpenLaw} {n k : Nat} {q : Program} {loose : List Str} {XP : (Str → Option Value) → Heap → Prop} {YP : World → Heap → Prop} {d : DefRec} {K : Params → PySem.W.Frag} {CX : World → CXT} {sp : World → Sp} {x : Str}
    (hn : l.most = some n) (hn2 : n ≤ sizeLine) (hdf : d.params.defaults = []) (hr : Room k callerA)
    (hY : ∀ (w : World) (h : Heap), YP w h → (K w.params).In h)
    (F : ∀ (w : World) (mg : Str → Option Value) (fa : Addr) (h : Heap), (K w.params).In h → h.Ns mainGlobals mg → mg d.name = some (.ref fa) →
      ∃ fd : FuncData, (∀ (s : Shared) (u : Value), BindsTo s fd ⟨[u], []⟩ [(x, u)]) ∧
        ∀ base : Heap, (K w.params).In base → base.Ns mainGlobals mg → FnOk l.prog w (K w.params) mg base (CX w) k fa fd [x] (sp w))
    (hsp : ∀ (w : World) (H : Hp) (a : Addr) (ns : List Int), ns.length ≤ n → Only H → SqL (K w.params) H a (ns.map V.int) → sp w [.ref a] H (fun v _ => v = .bl true) fun _ _ _ => False)
    (hCX : ∀ (w : World) (H : Hp) (s : Shared) (e : Value) (s' : Shared), CX w [] H s (fun _ _ _ => False) e s' → False) :
    PySem.W.WalkO q loose XP YP l.row.toRowW d [] (fun f vs => PySem.call f vs) := by
  refine Att.attach_call hn hdf fun w s₀ s₁ mg mb fa o pm cd doc a vs ns G Y ho hd hcd hmg hobj hints hlen hg => ?_
  have KX := hY w _ Y
  obtain ⟨fd, hb, hF⟩ := F w mg fa _ KX G.T.g hmg
  exact law_call KX G.T.g G.T.b G.T.builtins G.T.nolimit hg hobj hints (Nat.le_trans hlen hn2) hr hF hb (fun H hO hS => hsp w H a ns hlen hO hS) fun H e s' => hCX w H s₁ e s'
end L2


/-! SHORT WORDS over the layer: a def of the text, its body, what a loop and a test want. -/
namespace L2
open PySem PySem.Spec PyProof.Rows

/-! ### the text by places -/
/-- the j-th statement of a class's body -/
def inClass (s : Stmt) (j : Nat) : Stmt := match s with
  | .ClassDef _ _ _ body _ _ _ _ _ _ _ => body.getD j (.Pass ⟨0, 0, 0, 0⟩)
  | _ => .Pass ⟨0, 0, 0, 0⟩
def defArgs (s : Stmt) : Arguments := match s with
  | .FunctionDef _ a _ _ _ _ _ _ _ _ => a
  | _ => { posonlyargs := [], args := [], vararg := none, kwonlyargs := [], kw_defaults := [], kwarg := none, defaults := [] }
def defBody (s : Stmt) : List Stmt := match s with
  | .FunctionDef _ _ b _ _ _ _ _ _ _ => b
  | _ => []
def defScope (s : Stmt) : Scope := match s with
  | .FunctionDef _ _ _ _ _ _ sc _ _ _ => sc
  | _ => { kind := .function, names := [], isGenerator := false, isCoroutine := false }

/-! ### no exception leaves a def -/
abbrev CX0 : CXT := fun _ _ _ _ _ _ => False
abbrev E0 : XK := fun _ _ _ => False
/-! ### a def (or method) of the text as it stands behind the top -/
structure Fun (K : PySem.W.Frag) (x qual : Str) (st : Stmt) (f : Addr) (fd : FuncData) : Prop where
  ex : ∃ (oc : Value) (od : Option Addr) (kV doc pm : Value) (an : Option Addr) (cdv ct : Value) (osl : Array (Option Value)),
    fd = PySem.W.fnOf x qual (defArgs st) (defBody st) (defScope st) .none kV doc pm an cdv ct ∧ K.lookup f = some ⟨oc, od, .func fd, osl⟩ ∧ PySem.W.codeIn K cdv qual = true
  kp : PySem.W.keepIn K (.ref f) = true
section
variable {P : Program} {w : World} {K : PySem.W.Frag} {mg : Str → Option Value} {base : Heap}
/-- THE RULE for a def: its body as a term of rules, and the reading of that term -/
theorem Fun.ok {x qual : Str} {st : Stmt} {f : Addr} {fd : FuncData} {N ps : List Str} {k : Nat} {sp : Sp} (F : Fun K x qual st f fd) (S : FnScope N ps (defScope st)) (len : ∀ vs H Q E, sp vs H Q E → vs.length = ps.length)
    (hbody : ∀ (cdv : Value) (A : Around) (outer : List Env) (s : Shared) (H : Hp) (vs : List V) (Q : VK) (E : XK), Room k (A.deeper (envOfC qual (defScope st) s.heap.objs.size f cdv)) → sp vs H Q E →
      ∃ t, PSs (cxOf CX0 P w K mg base N qual (defScope st) f cdv A outer s H E).nox (defBody st) t ∧ t { nx := fun _ H' => Q .non H', rt := Q } (start N vs) H) : FnOk P w K mg base CX0 (k + 1) f fd ps sp := by
  obtain ⟨oc, od, kV, doc, pm, an, cdv, ct, osl, rfl, lk, hcd⟩ := F.ex
  refine fn_of lk hcd S len fun A outer s H vs Q E hr hsp => ?_
  obtain ⟨t, h, q⟩ := hbody cdv A outer s H vs Q E hr hsp
  exact ⟨t, h.nox, q⟩
/-- how its arguments bind (no defaults): h is «fun _ _ _ _ _ _ us hl => match us, hl with | [_, _], _ => rfl», one _ a parameter -/
theorem Fun.binds {x qual : Str} {st : Stmt} {f : Addr} {fd : FuncData} {ps : List Str} (F : Fun K x qual st f fd)
    (h : ∀ (kV doc pm : Value) (an : Option Addr) (cdv ct : Value) (us : List Value), us.length = ps.length → bindArgs (PySem.W.fnOf x qual (defArgs st) (defBody st) (defScope st) .none kV doc pm an cdv ct) ⟨us, []⟩ = pure (ps.zip us)) : Binds K fd ps [] := by
  obtain ⟨oc, od, kV, doc, pm, an, cdv, ct, osl, rfl, lk, hcd⟩ := F.ex
  exact .all (h kV doc pm an cdv ct)
theorem fun_mk {x qual : Str} {st : Stmt} {f : Addr} {oc : Value} {od an : Option Addr} {osl : Array (Option Value)} {kV doc pm cdv ct : Value} (l : K.lookup f = some ⟨oc, od, .func (PySem.W.fnOf x qual (defArgs st) (defBody st) (defScope st) .none kV doc pm an cdv ct), osl⟩)
    (c : PySem.W.codeIn K cdv qual = true) (k : PySem.W.keepIn K (.ref f) = true) : Fun K x qual st f (PySem.W.fnOf x qual (defArgs st) (defBody st) (defScope st) .none kV doc pm an cdv ct) := ⟨⟨oc, od, kV, doc, pm, an, cdv, ct, osl, rfl, l, c⟩, k⟩
end
theorem small1000 {n : Nat} (h : n ≤ 1000) : n < sizeLine := Nat.lt_of_le_of_lt h (by decide)

/-! ### expressions in short: the name that stands in the i-th slot -/
section
variable {X : Cx}
theorem pv (i : Nat) {x : Str} {pos : Pos} (hN : X.N[i]? = some x := by rfl) (hv : Vis X.env.scope x := by first | exact Or.inl rfl | exact Or.inr (Or.inl rfl) | exact Or.inr (Or.inr rfl)) (hd : (x == ("__debug__" : Str)) = false := by decide)
    (hcd : (x == ("__classdict__" : Str)) = false := by decide) : PE X (.Name x pos) (tVar i) := pe_var hN hv hd hcd
end

/-! ### tests -/
theorem iteF {A B : Prop} (h : B) : if false = true then A else B := by
  rw [if_neg Bool.false_ne_true]
  exact h
theorem iteT {A B : Prop} (h : A) : if true = true then A else B := by
  rw [if_pos rfl]
  exact h
theorem ite2 {c A B : Prop} [Decidable c] (h1 : c → A) (h2 : ¬ c → B) : if c then A else B := by
  by_cases h : c
  · rw [if_pos h]
    exact h1 h
  · rw [if_neg h]
    exact h2 h
/-! ### heaps -/
/-- all that was tracked is as it was -/
def Same (H H' : Hp) : Prop := ∀ b o, H b = some o → H' b = some o
theorem Same.refl (H : Hp) : Same H H := fun _ _ h => h
theorem Same.trans {H H1 H2 : Hp} (a : Same H H1) (b : Same H1 H2) : Same H H2 := fun c o h => b c o (a c o h)
theorem Same.free {H H' : Hp} (e : Same H H') {l : Addr} (h : H' l = Option.none) : H l = Option.none := by
  cases q : H l with
  | none => rfl
  | some o =>
    rw [e l o q] at h
    cases h
theorem Same.seq {K : PySem.W.Frag} {H H' : Hp} {a : Addr} {xs : List V} (e : Same H H') (h : SqL K H a xs) : SqL K H' a xs := by
  rcases h with (h | ⟨o, h⟩) | h
  · exact .inl (.inl (e _ _ h))
  · exact .inl (.inr ⟨o, e _ _ h⟩)
  · exact .inr h

end L2

namespace L2
open PySem PySem.Spec PyProof.Rows
/-! ### lists of pairs as tables -/
section
variable {κ : Type} [DecidableEq κ]
def valV (kvs : List (κ × V)) (k : κ) : Option V := (kvs.find? fun kv => decide (kv.1 = k)).map (·.2)
/-- in its place, or at the end -/
def putK (kvs : List (κ × V)) (k : κ) (v : V) : List (κ × V) :=
  if (kvs.any fun kv => decide (kv.1 = k)) = true then kvs.map (fun kv => if kv.1 = k then (kv.1, v) else kv) else kvs ++ [(k, v)]
def dropK (kvs : List (κ × V)) (k : κ) : List (κ × V) := kvs.filter fun kv => decide (kv.1 ≠ k)

theorem valV_pos {p : κ × V} {r : List (κ × V)} {k : κ} (e : p.1 = k) : valV (p :: r) k = some p.2 := by simp [valV, List.find?_cons, e]
theorem valV_neg {p : κ × V} {r : List (κ × V)} {k : κ} (e : ¬ p.1 = k) : valV (p :: r) k = valV r k := by simp [valV, List.find?_cons, e]
theorem valV_any (k : κ) : ∀ kvs : List (κ × V), (kvs.any fun kv => decide (kv.1 = k)) = (valV kvs k).isSome
  | [] => rfl
  | p :: r => by
    rw [List.any_cons]
    by_cases e : p.1 = k
    · simp only [valV_pos e, decide_eq_true e, Bool.true_or, Option.isSome_some]
    · rw [valV_neg e, decide_eq_false e, Bool.false_or]; exact valV_any k r
theorem RelO.isSome_eq {o : Option V} {u : Option Value} (r : RelO o u) : o.isSome = u.isSome := by
  cases o with
  | none => cases u with
    | none => rfl
    | some _ => exact (show False from r).elim
  | some _ => cases u with
    | none => exact (show False from r).elim
    | some _ => rfl
theorem RelO.getD {o : Option V} {u : Option Value} {d : V} {d' : Value} (r : RelO o u) (rd : RelV d d') : RelV (o.getD d) (u.getD d') := by
  cases o with
  | none => cases u with
    | none => exact rd
    | some _ => exact (show False from r).elim
  | some _ => cases u with
    | none => exact (show False from r).elim
    | some _ => exact r

/-- raw tables of the same keys -/
theorem KV.val {kvs : List (κ × V)} {vs : List (κ × Value)} (r : KV kvs vs) (k : κ) : RelO (valV kvs k) (valueAt vs k) := by
  unfold KV at r
  induction r with
  | nil => exact True.intro
  | @cons p q ps qs h t ih =>
    obtain ⟨h1, h2⟩ := h
    by_cases e : p.1 = k
    · have e' : q.1 = k := h1.symm.trans e
      have b : valueAt (q :: qs) k = some q.2 := by simp [valueAt, List.find?_cons, e']
      rw [valV_pos e, b]; exact h2
    · have e' : ¬ q.1 = k := fun z => e (h1.trans z)
      have b : valueAt (q :: qs) k = valueAt qs k := by simp [valueAt, List.find?_cons, e']
      rw [valV_neg e, b]; exact ih
theorem KV.any {kvs : List (κ × V)} {vs : List (κ × Value)} (r : KV kvs vs) (k : κ) : (kvs.any fun kv => decide (kv.1 = k)) = vs.any fun kv => decide (kv.1 = k) := by
  unfold KV at r
  induction r with
  | nil => rfl
  | cons h t ih => rw [List.any_cons, List.any_cons, ih, h.1]
theorem KV.repl {kvs : List (κ × V)} {vs : List (κ × Value)} (r : KV kvs vs) (k : κ) {y : V} {u : Value} (ry : RelV y u) :
    KV (kvs.map fun kv => if kv.1 = k then (kv.1, y) else kv) (vs.map fun kv => if kv.1 = k then (kv.1, u) else kv) := by
  unfold KV at r ⊢
  induction r with
  | nil => exact .nil
  | @cons p q ps qs h t ih =>
    rw [List.map_cons, List.map_cons]
    refine .cons ?_ ih
    obtain ⟨h1, h2⟩ := h
    by_cases e : p.1 = k
    · rw [if_pos e, if_pos (h1.symm.trans e)]; exact ⟨h1, ry⟩
    · rw [if_neg e, if_neg (fun z => e (h1.trans z))]; exact ⟨h1, h2⟩
theorem KV.put {kvs : List (κ × V)} {vs : List (κ × Value)} (r : KV kvs vs) (k : κ) {y : V} {u : Value} (ry : RelV y u) : KV (putK kvs k y) (stored vs k u) := by
  unfold putK stored
  rw [r.any k]
  by_cases e : (vs.any fun kv => decide (kv.1 = k)) = true
  · rw [if_pos e, if_pos e]; exact r.repl k ry
  · rw [if_neg e, if_neg e]; exact Paired.snoc r ⟨rfl, ry⟩
theorem KV.drop {kvs : List (κ × V)} {vs : List (κ × Value)} (r : KV kvs vs) (k : κ) : KV (dropK kvs k) (without vs k) := by
  unfold KV at r ⊢
  unfold dropK without
  induction r with
  | nil => exact .nil
  | @cons p q ps qs h t ih =>
    obtain ⟨h1, h2⟩ := h
    rw [List.filter_cons, List.filter_cons]
    by_cases e : p.1 = k
    · have a : ¬ decide (p.1 ≠ k) = true := by simp [e]
      have b : ¬ decide (q.1 ≠ k) = true := by simp [h1.symm.trans e]
      rw [if_neg a, if_neg b]; exact ih
    · have e' : ¬ q.1 = k := fun z => e (h1.trans z)
      have a : decide (p.1 ≠ k) = true := by simp [e]
      have b : decide (q.1 ≠ k) = true := by simp [e']
      rw [if_pos a, if_pos b]; exact .cons ⟨h1, h2⟩ ih
theorem KV.keys {kvs : List (κ × V)} {vs : List (κ × Value)} (r : KV kvs vs) : kvs.map (·.1) = vs.map (·.1) := by
  unfold KV at r
  induction r with
  | nil => rfl
  | cons h t ih => rw [List.map_cons, List.map_cons, ih, h.1]
theorem KV.length {kvs : List (κ × V)} {vs : List (κ × Value)} (r : KV kvs vs) : kvs.length = vs.length := Paired.length r
end


/-! ### a tracked dict, its keys ints and texts or tuples of these -/
/-- raw entries of a dict with tuple keys -/
abbrev KT (H : Hp) : List (List Key × V) → List (List Key × Addr × Value) → Prop := Paired fun p q => p.1 = q.1 ∧ H q.2.1 = some (.tup (p.1.map kV)) ∧ RelV p.2 q.2.2
theorem KT.val {H : Hp} {kvs : List (List Key × V)} {xs : List (List Key × Addr × Value)} (r : KT H kvs xs) (k : List Key) : RelO (valV kvs k) ((atKey xs k).map (·.2)) := by
  induction r with
  | nil => exact True.intro
  | @cons p q ps qs h t ih =>
    obtain ⟨h1, _, h2⟩ := h
    by_cases e : p.1 = k
    · have e' : q.1 = k := h1.symm.trans e
      have b : atKey (q :: qs) k = some q.2 := by simp [atKey, List.find?_cons, e']
      rw [valV_pos e, b]; exact h2
    · have e' : ¬ q.1 = k := fun z => e (h1.trans z)
      have b : atKey (q :: qs) k = atKey qs k := by simp [atKey, List.find?_cons, e']
      rw [valV_neg e, b]; exact ih
theorem KT.repl {H : Hp} {kvs : List (List Key × V)} {xs : List (List Key × Addr × Value)} (r : KT H kvs xs) (k : List Key) {y : V} {u : Value} (ry : RelV y u) :
    KT H (kvs.map fun kv => if kv.1 = k then (kv.1, y) else kv) (xs.map (putAt k u)) := by
  induction r with
  | nil => exact .nil
  | @cons p q ps qs h t ih =>
    rw [List.map_cons, List.map_cons]
    refine .cons ?_ ih
    obtain ⟨h1, h2, h3⟩ := h
    unfold putAt
    by_cases e : p.1 = k
    · rw [if_pos e, if_pos (h1.symm.trans e)]; exact ⟨h1, h2, ry⟩
    · rw [if_neg e, if_neg (fun z => e (h1.trans z))]; exact ⟨h1, h2, h3⟩
theorem KT.put {H : Hp} {kvs : List (List Key × V)} {xs : List (List Key × Addr × Value)} (r : KT H kvs xs) (k : List Key) {b : Addr} {y : V} {u : Value} (hb : H b = some (.tup (k.map kV))) (ry : RelV y u) :
    KT H (putK kvs k y) (storedH xs k b u) := by
  have e : (kvs.any fun kv => decide (kv.1 = k)) = (atKey xs k).isSome := by
    rw [valV_any, (r.val k).isSome_eq, Option.isSome_map]
  unfold putK storedH
  rw [e]
  by_cases q : (atKey xs k).isSome = true
  · rw [if_pos q, if_pos q]; exact r.repl k ry
  · rw [if_neg q, if_neg q]; exact Paired.snoc r ⟨rfl, hb, ry⟩
theorem KT.keeps {H H' : Hp} {kvs : List (List Key × V)} {xs : List (List Key × Addr × Value)} (r : KT H kvs xs) (ht : ∀ b ys, H b = some (.tup ys) → H' b = some (.tup ys)) : KT H' kvs xs :=
  Paired.mapP r fun _ _ z => ⟨z.1, ht _ _ z.2.1, z.2.2⟩

section
variable {P : Program} {w : World} {H : Hp} {h : Heap} {a : Addr}
end

/-- what the dict at a holds at the key y -/
def DGet (H : Hp) (a : Addr) (y : V) (r : Option V) : Prop :=
  (∃ kvs k, Rd H a (.dK kvs) ∧ y = kV k ∧ r = valV kvs k) ∨ ∃ kvs k b, Rd H a (.dT kvs) ∧ y = .ref b ∧ H b = some (.tup (k.map kV)) ∧ r = valV kvs k
/-- the heap behind a[y] = v -/
def DPut (H : Hp) (a : Addr) (y v : V) (H' : Hp) : Prop :=
  (∃ kvs k, H a = some (.dK kvs) ∧ y = kV k ∧ kvs.length < sizeLine ∧ H' = upd H a (.dK (putK kvs k v))) ∨
  ∃ kvs k b, H a = some (.dT kvs) ∧ y = .ref b ∧ H b = some (.tup (k.map kV)) ∧ kvs.length < sizeLine ∧ H' = upd H a (.dT (putK kvs k v))
theorem DGet.k {H : Hp} {a : Addr} {kvs : List (Key × V)} {k : Key} (e : H a = some (.dK kvs)) : DGet H a (kV k) (valV kvs k) := .inl ⟨kvs, k, .inl e, rfl, rfl⟩
theorem DGet.t {H : Hp} {a b : Addr} {kvs : List (List Key × V)} {k : List Key} (e : H a = some (.dT kvs)) (eb : H b = some (.tup (k.map kV))) : DGet H a (.ref b) (valV kvs k) := .inr ⟨kvs, k, b, .inl e, rfl, eb, rfl⟩
theorem DPut.k {H : Hp} {a : Addr} {kvs : List (Key × V)} {k : Key} {v : V} (e : H a = some (.dK kvs)) (hl : kvs.length < sizeLine) : DPut H a (kV k) v (upd H a (.dK (putK kvs k v))) := .inl ⟨kvs, k, e, rfl, hl, rfl⟩
theorem DPut.t {H : Hp} {a b : Addr} {kvs : List (List Key × V)} {k : List Key} {v : V} (e : H a = some (.dT kvs)) (eb : H b = some (.tup (k.map kV))) (hl : kvs.length < sizeLine) :
    DPut H a (.ref b) v (upd H a (.dT (putK kvs k v))) := .inr ⟨kvs, k, b, e, rfl, eb, hl, rfl⟩


section
variable {X : Cx} {pins : List (Addr × Obj)} {σ : St} {H : Hp} {s : Shared} {a : Addr} {y v : V} {u r : Value} {o : Option V} {A : Around} {E : Value → Shared → Prop}

theorem Inv.big (I : Inv X pins σ H s) : sysModules < s.heap.objs.size := by
  have h : mainGlobals < s.heap.objs.size := (I.mod.glob.keeps I.bk).lt
  exact Nat.lt_trans (by decide) h

end

section
variable {X : Cx} {pins : List (Addr × Obj)} {σ : St} {H : Hp} {s : Shared} {a : Addr} {kvs : List (Key × V)} {k : Key} {u : Value} {A : Around} {E : Value → Shared → Prop}
end


/-! ### readings and rules -/
/-- the element of a subscription, not a slice -/
def NoSl (i : Expr) : Prop := ∀ ov iv, subscripted i false ov iv = operate [ov, iv] (getItem ov iv)
/-- d[y] -/
def tDGet (td ty : TE) : TE := fun σ H Q => td σ H fun x H1 => ty σ H1 fun y H2 => ∃ a v, x = .ref a ∧ DGet H2 a y (some v) ∧ Q v H2
/-- y in d, y not in d -/
def tDIn (ty td : TE) : TE := fun σ H Q => ty σ H fun y H1 => td σ H1 fun x H2 => ∃ a o, x = .ref a ∧ DGet H2 a y o ∧ Q (.bl o.isSome) H2
def tDNotIn (ty td : TE) : TE := fun σ H Q => ty σ H fun y H1 => td σ H1 fun x H2 => ∃ a o, x = .ref a ∧ DGet H2 a y o ∧ Q (.bl (!o.isSome)) H2
/-- d[y] = v -/
def sDPut (td ty tv : TE) : TS := fun D σ H => tv σ H fun v H1 => td σ H1 fun x H2 => ty σ H2 fun y H3 => ∃ a H4, x = .ref a ∧ DPut H3 a y v H4 ∧ D.nx σ H4
/-- d[y] op= v -/
def sDAug (td ty tv : TE) (rd : V → V → Hp → VK → Prop) : TS := fun D σ H => td σ H fun x H1 => ty σ H1 fun y H2 => ∃ a v, x = .ref a ∧ DGet H2 a y (some v) ∧
  tv σ H2 fun y2 H3 => rd v y2 H3 fun z H4 => ∃ H5, DPut H4 a y z H5 ∧ D.nx σ H5
/-- del d[y] -/
def sDDel (td ty : TE) : TS := fun D σ H => td σ H fun x H1 => ty σ H1 fun y H2 => ∃ a kvs k, x = .ref a ∧ H2 a = some (.dK kvs) ∧ y = kV k ∧ (valV kvs k).isSome = true ∧ D.nx σ (upd H2 a (.dK (dropK kvs k)))

section
variable {X : Cx} {o i e value : Expr} {pos pos' tpos : Pos} {td ty tv : TE}
end


/-! ### displays -/
/-- {}, to be a dict of the kind that is wanted -/
def tDNewK : TE := fun _ H Q => ∀ p, H p = none → Q (.ref p) (upd H p (.dK []))
def tDNewT : TE := fun _ H Q => ∀ p, H p = none → Q (.ref p) (upd H p (.dT []))
section
variable {X : Cx} {pos : Pos}
end

/-- the pairs of a display, from the left -/
def tPairs : List (TE × TE) → St → Hp → (List (V × V) → Hp → Prop) → Prop
  | [], _, H, Q => Q [] H
  | (tk, tv) :: r, σ, H, Q => tk σ H fun x H1 => tv σ H1 fun y H2 => tPairs r σ H2 fun ps H3 => Q ((x, y) :: ps) H3
abbrev VV : List (V × V) → List (Value × Value) → Prop := Paired fun p q => RelV p.1 q.1 ∧ RelV p.2 q.2
def PPs (X : Cx) (pos : Pos) (keys : List (Option Expr)) (values : List Expr) (trs : List (TE × TE)) : Prop :=
  ∀ (pins : List (Addr × Obj)) (s : Shared) (σ : St) (H : Hp) (Q : List (V × V) → Hp → Prop), Inv X pins σ H s → tPairs trs σ H Q →
    wpAny (model X.prog X.w) X.A (evalPairs (pairTrees keys values X.env pos)) (fun vs s' => ∃ ps H', Inv X pins σ H' s' ∧ VV ps vs ∧ Q ps H') X.xe s
def mergeK (kvs more : List (Key × V)) : List (Key × V) := more.foldl (fun acc kv => putK acc kv.1 kv.2) kvs
/-- {k: v, ..} with keys ints and texts; the new dict stands empty while the pairs are made -/
def tDisp (trs : List (TE × TE)) : TE := fun σ H Q => ∀ p, H p = none → tPairs trs σ (upd H p (.dK [])) fun ps H2 => H2 p = some (.dK []) ∧ ∃ kvs : List (Key × V), ps = kvs.map (fun kv => (kV kv.1, kv.2)) ∧ kvs.length ≤ 15 ∧ Q (.ref p) (upd H2 p (.dK (mergeK [] kvs)))
/-! ### methods -/
/-- a method call o.m(e) of a built-in, with one argument: what must be seen of the text -/
structure M1 (X : Cx) (o : Expr) (m : Str) (apos : Pos) (e : Expr) (cpos : Pos) : Prop where
  base : attributeBase o m X.env (eval o X.env) = eval o X.env
  few : ((backTo cpos (starEach [e] X.env)).all (fun x => !x.1) && (backToKw cpos (keywordEach [] X.env)).all (fun x => x.1.isSome)
    && decide (([e] : List Expr).length + ([] : List Keyword).length + (if ([] : List Keyword).isEmpty then 0 else 1) < 30)) = true
  line : (apos.endLine == cpos.line) = true
  trees : backTo cpos (starEach [e] X.env) = [(false, eval e X.env)]
structure M2 (X : Cx) (o : Expr) (m : Str) (apos : Pos) (e f : Expr) (cpos : Pos) : Prop where
  base : attributeBase o m X.env (eval o X.env) = eval o X.env
  few : ((backTo cpos (starEach [e, f] X.env)).all (fun x => !x.1) && (backToKw cpos (keywordEach [] X.env)).all (fun x => x.1.isSome)
    && decide (([e, f] : List Expr).length + ([] : List Keyword).length + (if ([] : List Keyword).isEmpty then 0 else 1) < 30)) = true
  line : (apos.endLine == cpos.line) = true
  trees : backTo cpos (starEach [e, f] X.env) = [(false, eval e X.env), (false, eval f X.env)]

/-- a is a dict, whatever its keys -/
def IsD (H : Hp) (a : Addr) : Prop := (∃ kvs, Rd H a (.dK kvs)) ∨ ∃ kvs, Rd H a (.dT kvs)
section
variable {X : Cx} {pins : List (Addr × Obj)} {σ : St} {H : Hp} {s : Shared} {a : Addr} {y d : V} {u r : Value} {o : Option V} {A : Around} {E : Value → Shared → Prop}
end

def tDGet1 (td ty : TE) : TE := fun σ H Q => td σ H fun x H1 => ∃ a, x = .ref a ∧ IsD H1 a ∧ ty σ H1 fun y H2 => ∃ o, DGet H2 a y o ∧ Q (o.getD .non) H2
def tDGet2 (td ty tx : TE) : TE := fun σ H Q => td σ H fun x H1 => ∃ a, x = .ref a ∧ IsD H1 a ∧ ty σ H1 fun y H2 => tx σ H2 fun z H3 => ∃ o, DGet H3 a y o ∧ Q (o.getD z) H3
/-- d.pop(k): there; d.pop(k, x): there or not -/
def tDPop1 (td ty : TE) : TE := fun σ H Q => td σ H fun x H1 => ∃ a, x = .ref a ∧ IsD H1 a ∧ ty σ H1 fun y H2 => ∃ kvs k v, H2 a = some (.dK kvs) ∧ y = kV k ∧ valV kvs k = some v ∧ Q v (upd H2 a (.dK (dropK kvs k)))
def tDPop2 (td ty tx : TE) : TE := fun σ H Q => td σ H fun x H1 => ∃ a, x = .ref a ∧ IsD H1 a ∧ ty σ H1 fun y H2 => tx σ H2 fun z H3 => ∃ kvs k, H3 a = some (.dK kvs) ∧ y = kV k ∧
  (∀ v, valV kvs k = some v → Q v (upd H3 a (.dK (dropK kvs k)))) ∧ (valV kvs k = none → Q z H3)
section
variable {X : Cx} {o e f : Expr} {apos cpos : Pos} {td ty tx : TE}
end

/-! ### dict(d): a copy -/
section
variable {X : Cx} {pins : List (Addr × Obj)} {σ : St} {H : Hp} {s : Shared} {a : Addr} {kvs : List (Key × V)} {A : Around} {E : Value → Shared → Prop}
end


section
variable {X : Cx} {pins : List (Addr × Obj)} {σ : St} {H : Hp} {s : Shared} {a : Addr} {y : V} {u : Value} {A : Around} {E : Value → Shared → Prop}
end
end L2

/-! PLAIN DATA over the hand layer: values without a heap (tuples by their items), a store of the mutable objects, readings that compute. -/
namespace L3
open PySem PySem.Spec PyProof.Rows L2

abbrev St := L2.St
/-- plain data: tuples by what they hold, lists (and later objects) by their number in the store -/
inductive D where
  | non | bl (b : Bool) | int (i : Int) | str (x : Str) | tup (xs : List D) | ref (n : Nat) | exc (c : Addr)
/-- what the store holds: a list of the run's own; a list that is only read -/
inductive Ob where
  | lst (xs : List D) | frz (xs : List D)
  /-- an instance of the class at C, its fields -/
  | ins (C : Addr) (fs : List (Str × D))
  /-- a dict whose keys are tuples of ints and texts -/
  | dct (kvs : List (List Key × D))
abbrev Sto := List Ob
abbrev Ev := List (Option D)
abbrev DK := D → Sto → Prop
abbrev TDE := Ev → Sto → DK → Prop
abbrev TDT := Ev → Sto → (Bool → Sto → Prop) → Prop
abbrev TDA := Ev → Sto → (List D → Sto → Prop) → Prop
structure EndsD where
  nx : Ev → Sto → Prop
  rt : DK
  bk : Ev → Sto → Prop := fun _ _ => False
  ct : Ev → Sto → Prop := fun _ _ => False
abbrev TDS := EndsD → Ev → Sto → Prop

/-- an exception that was caught: its class -/
def isX (a c : Addr) : HO := .ext fun h => ∃ o, h.get? a = some o ∧ o.cls = .ref c
/-- the datum d lies in the abstract heap as the value v; r tells where the store's objects lie -/
inductive Rp (r : List Addr) (H : Hp) : D → V → Prop
  | non : Rp r H .non .non
  | bl (b : Bool) : Rp r H (.bl b) (.bl b)
  | int (i : Int) : Rp r H (.int i) (.int i)
  | str (x : Str) : Rp r H (.str x) (.str x)
  | tup {ds : List D} {xs : List V} {a : Addr} : H a = some (.tup xs) → ds.length = xs.length → (∀ (i : Nat) (d : D) (v : V), ds[i]? = some d → xs[i]? = some v → Rp r H d v) → Rp r H (.tup ds) (.ref a)
  | ref {n : Nat} {a : Addr} : r[n]? = some a → Rp r H (.ref n) (.ref a)
  | exc {c a : Addr} : H a = some (isX a c) → Rp r H (.exc c) (.ref a)
def Rps (r : List Addr) (H : Hp) (ds : List D) (vs : List V) : Prop := ds.length = vs.length ∧ ∀ (i : Nat) (d : D) (v : V), ds[i]? = some d → vs[i]? = some v → Rp r H d v
/-- what later states keep -/
structure Ext (r r' : List Addr) (H H' : Hp) : Prop where
  adr : ∀ (n : Nat) (a : Addr), r[n]? = some a → r'[n]? = some a
  tup : ∀ a xs, H a = some (.tup xs) → H' a = some (.tup xs)
  xc : ∀ a c, H a = some (isX a c) → H' a = some (isX a c)
section
variable {r r' r2 : List Addr} {H H' H2 : Hp} {d : D} {v : V} {ds : List D} {vs : List V}
theorem Ext.refl : Ext r r H H := ⟨fun _ _ h => h, fun _ _ h => h, fun _ _ h => h⟩
theorem Ext.trans (a : Ext r r' H H') (b : Ext r' r2 H' H2) : Ext r r2 H H2 := ⟨fun n x h => b.adr n x (a.adr n x h), fun x y h => b.tup x y (a.tup x y h), fun x y h => b.xc x y (a.xc x y h)⟩
theorem Rp.ext (h : Rp r H d v) (e : Ext r r' H H') : Rp r' H' d v := by
  induction h with
  | non => exact .non
  | bl b => exact .bl b
  | int i => exact .int i
  | str x => exact .str x
  | tup h l _ ih => exact .tup (e.tup _ _ h) l ih
  | ref h => exact .ref (e.adr _ _ h)
  | exc h => exact .exc (e.xc _ _ h)
theorem Rps.ext (h : Rps r H ds vs) (e : Ext r r' H H') : Rps r' H' ds vs := ⟨h.1, fun i d v h1 h2 => (h.2 i d v h1 h2).ext e⟩
theorem Rps.nil : Rps r H [] [] := ⟨rfl, fun i d v h => by simp at h⟩
theorem Rps.cons (h : Rp r H d v) (t : Rps r H ds vs) : Rps r H (d :: ds) (v :: vs) := by
  refine ⟨by simp [t.1], fun i x y h1 h2 => ?_⟩
  cases i with
  | zero =>
    simp at h1 h2
    subst h1; subst h2
    exact h
  | succ i => exact t.2 i x y (by simpa using h1) (by simpa using h2)
theorem Rps.tail {y : V} (h : Rps r H (d :: ds) (y :: vs)) : Rp r H d y ∧ Rps r H ds vs :=
  ⟨h.2 0 d y rfl rfl, by simpa using h.1, fun i a b h1 h2 => h.2 (i + 1) a b (by simpa using h1) (by simpa using h2)⟩
theorem Rps.uncons (h : Rps r H (d :: ds) vs) : ∃ v vs', vs = v :: vs' ∧ Rp r H d v ∧ Rps r H ds vs' := by
  cases vs with
  | nil => exact absurd h.1 (by simp)
  | cons v vs' => exact ⟨v, vs', rfl, h.tail⟩
theorem Rps.unnil (h : Rps r H [] vs) : vs = [] := by
  cases vs with
  | nil => rfl
  | cons v vs' => exact absurd h.1 (by simp)
theorem Rps.get {i : Nat} (h : Rps r H ds vs) (e : ds[i]? = some d) : ∃ v, vs[i]? = some v ∧ Rp r H d v := by
  have hi : i < ds.length := (List.getElem?_eq_some_iff.mp e).1
  have hv : i < vs.length := by rw [← h.1]; exact hi
  exact ⟨vs[i], by simp [hv], h.2 i d vs[i] e (by simp [hv])⟩
theorem Rps.snoc (h : Rps r H ds vs) (t : Rp r H d v) : Rps r H (ds ++ [d]) (vs ++ [v]) := by
  refine ⟨by simp [h.1], fun i x y h1 h2 => ?_⟩
  by_cases hi : i < ds.length
  · rw [List.getElem?_append_left hi] at h1
    rw [List.getElem?_append_left (by rw [← h.1]; exact hi)] at h2
    exact h.2 i x y h1 h2
  · have hl : i < (ds ++ [d]).length := (List.getElem?_eq_some_iff.mp h1).1
    have e : i = ds.length := by simp at hl; omega
    subst e
    rw [List.getElem?_append_right (Nat.le_refl _)] at h1
    rw [h.1, List.getElem?_append_right (Nat.le_refl _)] at h2
    simp at h1 h2
    subst h1; subst h2
    exact t
theorem Rps.tupR {a : Addr} (h : Rps r H ds vs) (e : H a = some (.tup vs)) : Rp r H (.tup ds) (.ref a) := .tup e h.1 h.2
theorem Rp.untup {vs : V} (h : Rp r H (.tup ds) vs) : ∃ a xs, vs = .ref a ∧ H a = some (.tup xs) ∧ Rps r H ds xs := by
  cases h with
  | tup e l f => exact ⟨_, _, rfl, e, l, f⟩
end

/-- a list that is only read: the script, or an object of the module -/
def SqF (K : PySem.W.Frag) (H : Hp) (a : Addr) (xs : List V) : Prop :=
  (∃ o, H a = some (.frz o (.lst xs))) ∨
    ∃ (o : Obj) (its : Array Value) (n : Nat), K.lookup a = some o ∧ o.cls = .type "list" ∧ o.dict = none ∧ o.data = .seq its n ∧ its.size ≤ sizeLine ∧ Vals xs its.toList
theorem SqF.sql {K : PySem.W.Frag} {H : Hp} {a : Addr} {xs : List V} (h : SqF K H a xs) : SqL K H a xs := by
  rcases h with ⟨o, h⟩ | h
  · exact .inl (.inr ⟨o, h⟩)
  · exact .inr h
/-- named things, side by side -/
def FR {α : Type} (r : List Addr) (H : Hp) (fs : List (α × D)) (fs' : List (α × V)) : Prop := fs.map (·.1) = fs'.map (·.1) ∧ Rps r H (fs.map (·.2)) (fs'.map (·.2))
theorem FR.ext {α : Type} {r r' : List Addr} {H H' : Hp} {fs : List (α × D)} {fs' : List (α × V)} (h : FR r H fs fs') (e : Ext r r' H H') : FR r' H' fs fs' := ⟨h.1, h.2.ext e⟩
theorem FR.nil {α : Type} {r : List Addr} {H : Hp} : FR (α := α) r H [] [] := ⟨rfl, Rps.nil⟩
def ObR (K : PySem.W.Frag) (r : List Addr) (H : Hp) (a : Addr) : Ob → Prop
  | .lst ds => ∃ xs, H a = some (.lst xs) ∧ Rps r H ds xs
  | .frz ds => ∃ xs, SqF K H a xs ∧ Rps r H ds xs
  | .ins C fs => ∃ dx fs', H a = some (.ins C dx fs') ∧ FR r H fs fs'
  | .dct kvs => ∃ kvs', H a = some (.dT kvs') ∧ FR r H kvs kvs'
/-- the run's own, that may change -/
def isOwn : Ob → Bool
  | .frz _ => false
  | _ => true
structure RelB (K : PySem.W.Frag) (r : List Addr) (S : Sto) (H : Hp) : Prop where
  len : r.length = S.length
  ob : ∀ (n : Nat) (a : Addr) (o : Ob), r[n]? = some a → S[n]? = some o → ObR K r H a o
  nd : ∀ (n m : Nat) (a : Addr) (o u : Ob), r[n]? = some a → r[m]? = some a → S[n]? = some o → S[m]? = some u → isOwn o = true → isOwn u = true → n = m
/-- the items of a list, whosever it is -/
def itemsOf : Ob → List D
  | .lst ds => ds
  | .frz ds => ds
  | _ => [.exc 0]
/-- the lists alone -/
def keepL : Ob → Option Ob
  | .lst ds => some (.lst ds)
  | .frz ds => some (.frz ds)
  | _ => none
def lAt (S : Sto) (n : Nat) : Option Ob := (S[n]?).bind keepL
theorem keepL_eq {o u : Ob} (h : keepL o = some u) : u = o := by
  cases o <;> simp [keepL] at h <;> exact h.symm
theorem lAt_some {S : Sto} {n : Nat} {o : Ob} (h : lAt S n = some o) : S[n]? = some o ∧ keepL o = some o := by
  unfold lAt at h
  cases q : S[n]? with
  | none =>
   rw [q] at h
   cases h
  | some u =>
    rw [q] at h
    have h' : keepL u = some o := h
    have e := keepL_eq h'
    subst e
    exact ⟨rfl, h'⟩
theorem lAt_of {S : Sto} {n : Nat} {o : Ob} (h : S[n]? = some o) (hL : keepL o = some o) : lAt S n = some o := by
  unfold lAt
  rw [h]
  exact hL
section
variable {K : PySem.W.Frag} {r r' : List Addr} {S : Sto} {H H' : Hp} {n : Nat} {a p : Addr}
theorem RelB.at {o : Ob} (h : RelB K r S H) (e : S[n]? = some o) : ∃ a, r[n]? = some a ∧ ObR K r H a o := by
  have hn : n < S.length := (List.getElem?_eq_some_iff.mp e).1
  have hr : n < r.length := by rw [h.len]; exact hn
  exact ⟨r[n], by simp [hr], h.ob n r[n] o (by simp [hr]) e⟩
theorem ObR.list {o : Ob} (h : ObR K r H a o) (hL : keepL o = some o) : ∃ xs, SqL K H a xs ∧ Rps r H (itemsOf o) xs := by
  cases o with
  | lst ds => obtain ⟨xs, e, q⟩ := h; exact ⟨xs, SqL.of e, q⟩
  | frz ds => obtain ⟨xs, e, q⟩ := h; exact ⟨xs, e.sql, q⟩
  | ins C fs => cases hL
  | dct kvs => cases hL
theorem ObR.keep {o : Ob} (q : ObR K r H a o) (x : Ext r r' H H') (ha : ∀ u, H a = some u → H' a = some u) : ObR K r' H' a o := by
  cases o with
  | lst ds => obtain ⟨xs, h3, h4⟩ := q; exact ⟨xs, ha _ h3, h4.ext x⟩
  | frz ds =>
    obtain ⟨xs, h3, h4⟩ := q
    refine ⟨xs, ?_, h4.ext x⟩
    rcases h3 with ⟨o, h3⟩ | h3
    · exact .inl ⟨o, ha _ h3⟩
    · exact .inr h3
  | ins C fs => obtain ⟨dx, fs', h3, h4⟩ := q; exact ⟨dx, fs', ha _ h3, h4.ext x⟩
  | dct kvs => obtain ⟨ks, h3, h4⟩ := q; exact ⟨ks, ha _ h3, h4.ext x⟩
/-- what the abstract heap has of one of the run's own -/
theorem ObR.own {o : Ob} (q : ObR K r H a o) (h : isOwn o = true) : ∃ u, H a = some u ∧ (∀ xs, u ≠ HO.tup xs) ∧ (∀ b c, u ≠ isX b c) ∧ ∀ z y, u ≠ HO.frz z y := by
  cases o with
  | lst ds => obtain ⟨xs, h3, h4⟩ := q; exact ⟨_, h3, (fun _ z => by cases z), (fun _ _ z => by cases z), (fun _ _ z => by cases z)⟩
  | frz ds => cases h
  | ins C fs => obtain ⟨dx, fs', h3, h4⟩ := q; exact ⟨_, h3, (fun _ z => by cases z), (fun _ _ z => by cases z), (fun _ _ z => by cases z)⟩
  | dct kvs => obtain ⟨ks, h3, h4⟩ := q; exact ⟨_, h3, (fun _ z => by cases z), (fun _ _ z => by cases z), (fun _ _ z => by cases z)⟩
/-- all that was tracked stays, the store stays -/
theorem RelB.same (h : RelB K r S H) (e : ∀ b o, H b = some o → H' b = some o) : RelB K r S H' :=
  ⟨h.len, fun n a o h1 h2 => (h.ob n a o h1 h2).keep ⟨fun _ _ q => q, fun a xs q => e _ _ q, fun a c q => e _ _ q⟩ (e a), h.nd⟩
theorem same_upd {o : HO} (h : H p = none) : ∀ b u, H b = some u → (upd H p o) b = some u := fun b u q => by rw [upd_ne (ne_of_none q h)]; exact q
theorem push_split {n : Nat} {b : Addr} (e : (r ++ [p])[n]? = some b) : (n < r.length ∧ r[n]? = some b) ∨ (n = r.length ∧ b = p) := by
  by_cases hn : n < r.length
  · rw [List.getElem?_append_left hn] at e; exact .inl ⟨hn, e⟩
  · have hl : n < (r ++ [p]).length := (List.getElem?_eq_some_iff.mp e).1
    have en : n = r.length := by simp at hl; omega
    subst en
    rw [List.getElem?_append_right (Nat.le_refl _)] at e
    simp at e
    exact .inr ⟨rfl, e.symm⟩
/-- a new object of the run's own, at a place that nothing of H stands at -/
theorem RelB.pushO {o : Ob} (h : RelB K r S H) (hp : H p = none) (keep : ∀ b u, H b = some u → H' b = some u) (q : Ext r (r ++ [p]) H H' → ObR K (r ++ [p]) H' p o) : RelB K (r ++ [p]) (S ++ [o]) H' ∧ Ext r (r ++ [p]) H H' := by
  have x : Ext r (r ++ [p]) H H' := ⟨fun n a e => by
    have hn : n < r.length := (List.getElem?_eq_some_iff.mp e).1
    rw [List.getElem?_append_left hn]; exact e, fun a ys e => keep _ _ e, fun a c e => keep _ _ e⟩
  have sS : ∀ {n : Nat} {u : Ob}, n < r.length → (S ++ [o])[n]? = some u → S[n]? = some u := fun {n u} hn e => by
    rw [List.getElem?_append_left (by rw [← h.len]; exact hn)] at e; exact e
  refine ⟨⟨by simp [h.len], fun n a u h1 h2 => ?_, fun n m a u w h1 h2 h3 h4 o1 o2 => ?_⟩, x⟩
  · rcases push_split h1 with ⟨hn, e⟩ | ⟨rfl, rfl⟩
    · exact (h.ob n a u e (sS hn h2)).keep x (keep a)
    · rw [h.len, List.getElem?_append_right (Nat.le_refl _)] at h2
      simp at h2
      subst h2
      exact q x
  · rcases push_split h1 with ⟨hn, e⟩ | ⟨rfl, rfl⟩
    · rcases push_split h2 with ⟨hm, e'⟩ | ⟨rfl, rfl⟩
      · exact h.nd n m a u w e e' (sS hn h3) (sS hm h4) o1 o2
      · obtain ⟨zs, h5, _⟩ := (h.ob n _ _ e (sS hn h3)).own o1
        rw [hp] at h5; cases h5
    · rcases push_split h2 with ⟨hm, e'⟩ | ⟨rfl, _⟩
      · obtain ⟨zs, h5, _⟩ := (h.ob m _ _ e' (sS hm h4)).own o2
        rw [hp] at h5; cases h5
      · rfl
/-- a new list of the run's own -/
theorem RelB.push {ds : List D} {xs : List V} (h : RelB K r S H) (hp : H p = none) (q : Rps r H ds xs) : RelB K (r ++ [p]) (S ++ [.lst ds]) (upd H p (.lst xs)) ∧ Ext r (r ++ [p]) H (upd H p (.lst xs)) :=
  h.pushO hp (same_upd hp) fun x => ⟨xs, upd_same, q.ext x⟩
/-- one of the run's own changes -/
theorem RelB.setO {o o' : Ob} {u : HO} (h : RelB K r S H) (hn : r[n]? = some a) (hS : S[n]? = some o) (ho : isOwn o = true) (ho' : isOwn o' = true) (q : Ext r r H (upd H a u) → ObR K r (upd H a u) a o') : RelB K r (S.set n o') (upd H a u) ∧ Ext r r H (upd H a u) := by
  obtain ⟨u0, h0, t1, t2, t3⟩ := (h.ob n a _ hn hS).own ho
  have x : Ext r r H (upd H a u) := ⟨fun _ _ e => e, fun b zs e => by
    rw [upd_ne (ne_of e h0 (fun z => t1 zs z.symm))]; exact e, fun b c e => by
    rw [upd_ne (ne_of e h0 (fun z => t2 b c z.symm))]; exact e⟩
  have hlt : n < S.length := (List.getElem?_eq_some_iff.mp hS).1
  have off : ∀ {m : Nat} {w : Ob}, m ≠ n → (S.set n o')[m]? = some w → S[m]? = some w := fun {m w} hm e => by
    rw [List.getElem?_set_ne (Ne.symm hm)] at e; exact e
  refine ⟨⟨by simp [h.len], fun m b w h1 h2 => ?_, fun m k b w y h1 h2 h3 h4 o1 o2 => ?_⟩, x⟩
  · by_cases hm : m = n
    · subst hm
      rw [hn] at h1; cases h1
      rw [List.getElem?_set_self hlt] at h2
      cases h2
      exact q x
    · have h2' := off hm h2
      have q' := h.ob m b w h1 h2'
      by_cases hw : isOwn w = true
      · have hb : b ≠ a := fun z => hm (by subst z; exact h.nd m n b w o h1 hn h2' hS hw ho)
        exact q'.keep x fun z e => by rw [upd_ne hb]; exact e
      · cases w with
        | frz es =>
          obtain ⟨zs, h3, h4⟩ := q'
          refine ⟨zs, ?_, h4.ext x⟩
          rcases h3 with ⟨z, h3⟩ | h3
          · exact .inl ⟨z, by rw [upd_ne (ne_of h3 h0 (fun y => t3 _ _ y.symm))]; exact h3⟩
          · exact .inr h3
        | _ => exact absurd rfl hw
  · have back : ∀ {j : Nat} {w : Ob}, (S.set n o')[j]? = some w → isOwn w = true → ∃ y, S[j]? = some y ∧ isOwn y = true := fun {j w} e ow => by
      by_cases hj : j = n
      · subst hj; exact ⟨o, hS, ho⟩
      · exact ⟨w, off hj e, ow⟩
    obtain ⟨us', h3', q3⟩ := back h3 o1
    obtain ⟨ws', h4', q4⟩ := back h4 o2
    exact h.nd m k b us' ws' h1 h2 h3' h4' q3 q4
/-- a list of the run's own changes -/
theorem RelB.set {ds ds' : List D} {xs : List V} (h : RelB K r S H) (hn : r[n]? = some a) (hS : S[n]? = some (.lst ds)) (q : Rps r H ds' xs) : RelB K r (S.set n (.lst ds')) (upd H a (.lst xs)) ∧ Ext r r H (upd H a (.lst xs)) :=
  h.setO hn hS rfl rfl fun x => ⟨xs, upd_same, q.ext x⟩
end

/-- the names' values -/
def Rs (r : List Addr) (H : Hp) (dl : Ev) (σ : St) : Prop := dl.length = σ.length ∧ ∀ (i : Nat) (d : D), dl[i]? = some (some d) → ∃ v, σ[i]? = some (some v) ∧ Rp r H d v
theorem Rs.ext {r r' : List Addr} {H H' : Hp} {dl : Ev} {σ : St} (h : Rs r H dl σ) (e : Ext r r' H H') : Rs r' H' dl σ := ⟨h.1, fun i d q => by
  obtain ⟨v, h1, h2⟩ := h.2 i d q
  exact ⟨v, h1, h2.ext e⟩⟩
theorem Rs.set {r : List Addr} {H : Hp} {dl : Ev} {σ : St} {d : D} {v : V} (i : Nat) (h : Rs r H dl σ) (q : Rp r H d v) : Rs r H (dl.set i (some d)) (σ.set i (some v)) := by
  refine ⟨by simp [h.1], fun j e hj => ?_⟩
  by_cases hij : i = j
  · subst hij
    have hl : i < dl.length := by
      have := (List.getElem?_eq_some_iff.mp hj).1
      simpa using this
    rw [List.getElem?_set_self hl] at hj
    cases hj
    exact ⟨v, by rw [List.getElem?_set_self (by rw [← h.1]; exact hl)], q⟩
  · rw [List.getElem?_set_ne hij] at hj
    obtain ⟨v', h1, h2⟩ := h.2 j e hj
    exact ⟨v', by rw [List.getElem?_set_ne hij]; exact h1, h2⟩
/-- what is wanted of an exception: over plain data (its class, the store behind it), and of the values -/
structure Zx where
  ex : Ev → Addr → Sto → Prop
  w : St → XK
/-- whatever the names' values are -/
abbrev Zc (ex : Addr → Sto → Prop) (E : XK) : Zx := ⟨fun _ => ex, fun _ => E⟩
def RetX (K : PySem.W.Frag) (Z : Zx) (r : List Addr) (H : Hp) : Prop := ∀ (dl : Ev) (σ : St) (c : Addr) (H' : Hp) (r' : List Addr) (S' : Sto), Ext r r' H H' → Rs r' H' dl σ → RelB K r' S' H' → Z.ex dl c S' → Z.w σ (.ref c) none H'
theorem RetX.ext {K : PySem.W.Frag} {Z : Zx} {r r' : List Addr} {H H' : Hp} (h : RetX K Z r H) (e : Ext r r' H H') : RetX K Z r' H' := fun dl σ c H2 r2 S2 x => h dl σ c H2 r2 S2 (e.trans x)
structure Rel (K : PySem.W.Frag) (Z : Zx) (r : List Addr) (S : Sto) (H : Hp) : Prop where
  b : RelB K r S H
  xw : RetX K Z r H
section
variable {K : PySem.W.Frag} {Z : Zx} {r r' : List Addr} {S : Sto} {H H' : Hp} {n : Nat} {a p : Addr}
theorem Rel.len (h : Rel K Z r S H) : r.length = S.length := h.b.len
theorem Rel.at {o : Ob} (h : Rel K Z r S H) (e : S[n]? = some o) : ∃ a, r[n]? = some a ∧ ObR K r H a o := h.b.at e
theorem Rel.same (h : Rel K Z r S H) (e : ∀ b o, H b = some o → H' b = some o) : Rel K Z r S H' := ⟨h.b.same e, h.xw.ext ⟨fun _ _ q => q, fun a xs q => e _ _ q, fun a c q => e _ _ q⟩⟩
theorem Rel.push {ds : List D} {xs : List V} (h : Rel K Z r S H) (hp : H p = none) (q : Rps r H ds xs) : Rel K Z (r ++ [p]) (S ++ [.lst ds]) (upd H p (.lst xs)) ∧ Ext r (r ++ [p]) H (upd H p (.lst xs)) := by
  obtain ⟨h1, h2⟩ := h.b.push hp q
  exact ⟨⟨h1, h.xw.ext h2⟩, h2⟩
theorem Rel.set {ds ds' : List D} {xs : List V} (h : Rel K Z r S H) (hn : r[n]? = some a) (hS : S[n]? = some (.lst ds)) (q : Rps r H ds' xs) : Rel K Z r (S.set n (.lst ds')) (upd H a (.lst xs)) ∧ Ext r r H (upd H a (.lst xs)) := by
  obtain ⟨h1, h2⟩ := h.b.set hn hS q
  exact ⟨⟨h1, h.xw.ext h2⟩, h2⟩
end

/-! ### the judgements, lifted -/
/-- what is wanted behind an expression, over plain data -/
def Ret (K : PySem.W.Frag) (Z : Zx) (r : List Addr) (H : Hp) (Q : DK) (Qv : VK) : Prop := ∀ v H' r' d S', Ext r r' H H' → Rel K Z r' S' H' → Rp r' H' d v → Q d S' → Qv v H'
theorem Ret.ext {K : PySem.W.Frag} {Z : Zx} {r r' : List Addr} {H H' : Hp} {Q : DK} {Qv : VK} (h : Ret K Z r H Q Qv) (e : Ext r r' H H') : Ret K Z r' H' Q Qv := fun v H2 r2 d S2 x => h v H2 r2 d S2 (e.trans x)
def up (K : PySem.W.Frag) (Z : Zx) (t : TDE) : TE := fun σ H Qv => ∃ r dl S Q, Rs r H dl σ ∧ Rel K Z r S H ∧ t dl S Q ∧ Ret K Z r H Q Qv
def upT (K : PySem.W.Frag) (Z : Zx) (t : TDT) : TT := fun σ H Qb => ∃ r dl S Q, Rs r H dl σ ∧ Rel K Z r S H ∧ t dl S Q ∧ ∀ b H' r' S', Ext r r' H H' → Rel K Z r' S' H' → Q b S' → Qb b H'
def upA (K : PySem.W.Frag) (Z : Zx) (t : TDA) : TA := fun σ H Qv => ∃ r dl S Q, Rs r H dl σ ∧ Rel K Z r S H ∧ t dl S Q ∧ ∀ vs H' r' ds S', Ext r r' H H' → Rel K Z r' S' H' → Rps r' H' ds vs → Q ds S' → Qv vs H'
/-- what is wanted behind a statement -/
structure RetS (K : PySem.W.Frag) (Z : Zx) (r : List Addr) (H : Hp) (E : EndsD) (F : Ends) : Prop where
  nx : ∀ σ' H' r' dl' S', Ext r r' H H' → Rs r' H' dl' σ' → Rel K Z r' S' H' → E.nx dl' S' → F.nx σ' H'
  bk : ∀ σ' H' r' dl' S', Ext r r' H H' → Rs r' H' dl' σ' → Rel K Z r' S' H' → E.bk dl' S' → F.bk σ' H'
  ct : ∀ σ' H' r' dl' S', Ext r r' H H' → Rs r' H' dl' σ' → Rel K Z r' S' H' → E.ct dl' S' → F.ct σ' H'
  rt : Ret K Z r H E.rt F.rt
theorem RetS.ext {K : PySem.W.Frag} {Z : Zx} {r r' : List Addr} {H H' : Hp} {E : EndsD} {F : Ends} (h : RetS K Z r H E F) (e : Ext r r' H H') : RetS K Z r' H' E F :=
  ⟨fun a b c d f x => h.nx a b c d f (e.trans x), fun a b c d f x => h.bk a b c d f (e.trans x), fun a b c d f x => h.ct a b c d f (e.trans x), h.rt.ext e⟩
def upS (K : PySem.W.Frag) (Z : Zx) (t : TDS) : TS := fun F σ H => ∃ r dl S E, Rs r H dl σ ∧ Rel K Z r S H ∧ t E dl S ∧ RetS K Z r H E F

def PD (X : Cx) (Z : Zx) (e : Expr) (t : TDE) : Prop := PE X e (up X.K Z t)
def PDT (X : Cx) (Z : Zx) (e : Expr) (t : TDT) : Prop := PT X e (upT X.K Z t)
/-- a test within and, or -/
def PDW (X : Cx) (Z : Zx) (e : Expr) (t : TDT) : Prop := PW X e (upT X.K Z t)
def PDA (X : Cx) (Z : Zx) (es : List Expr) (t : TDA) : Prop := PA X es (upA X.K Z t)
def PDS (X : Cx) (Z : Zx) (st : Stmt) (t : TDS) : Prop := PS X st (upS X.K Z t)
def PDSs (X : Cx) (Z : Zx) (st : List Stmt) (t : TDS) : Prop := PSs X st (upS X.K Z t)

section
variable {X : Cx} {Z : Zx}
theorem PEimp {e : Expr} {t t' : TE} (h : PE X e t) (f : ∀ σ H Q, t' σ H Q → t σ H Q) : PE X e t' := fun pins s σ H Q I q => h pins s σ H Q I (f σ H Q q)
theorem PTimp {e : Expr} {t t' : TT} (h : PT X e t) (f : ∀ σ H Q, t' σ H Q → t σ H Q) : PT X e t' := fun pins s σ H Q I q => h pins s σ H Q I (f σ H Q q)
theorem PWimp {e : Expr} {t t' : TT} (h : PW X e t) (f : ∀ σ H Q, t' σ H Q → t σ H Q) : PW X e t' := fun wh pins s σ H Q I q => h wh pins s σ H Q I (f σ H Q q)
theorem PAimp {e : List Expr} {t t' : TA} (h : PA X e t) (f : ∀ σ H Q, t' σ H Q → t σ H Q) : PA X e t' := fun pos pins s σ H Q I q => h pos pins s σ H Q I (f σ H Q q)
theorem PSimp {e : Stmt} {t t' : TS} (h : PS X e t) (f : ∀ F σ H, t' F σ H → t F σ H) : PS X e t' := fun pins s σ H F I q => h pins s σ H F I (f F σ H q)
theorem PSsimp {e : List Stmt} {t t' : TS} (h : PSs X e t) (f : ∀ F σ H, t' F σ H → t F σ H) : PSs X e t' := fun pins s σ H F I q => h pins s σ H F I (f F σ H q)
theorem PDW.pt {e : Expr} {t : TDT} (h : PDW X Z e t) : PDT X Z e t := PW.pt h

/-! ### names, constants -/
def dVar (i : Nat) : TDE := fun dl S Q => match dl[i]? with
  | some (some d) => Q d S
  | _ => False
def dC (d : D) : TDE := fun _ S Q => Q d S
theorem pd_of_var {e : Expr} {i : Nat} (h : PE X e (tVar i)) : PD X Z e (dVar i) := PEimp h fun σ H Qv ⟨r, dl, S, Q, rs, rel, q, ret⟩ => by
  unfold dVar at q
  split at q
  · rename_i d e
    obtain ⟨v, h1, h2⟩ := rs.2 i d e
    exact ⟨v, h1, ret v H r d S Ext.refl rel h2 q⟩
  · exact q.elim
theorem dv (i : Nat) {x : Str} {pos : Pos} (hN : X.N[i]? = some x := by rfl) (hv : Vis X.env.scope x := by first | exact Or.inl rfl | exact Or.inr (Or.inl rfl) | exact Or.inr (Or.inr rfl)) (hd : (x == ("__debug__" : Str)) = false := by decide)
    (hcd : (x == ("__classdict__" : Str)) = false := by decide) : PD X Z (.Name x pos) (dVar i) := pd_of_var (pe_var hN hv hd hcd)
theorem pd_of_c {e : Expr} {d : D} {v : V} (h : PE X e (tC v)) (q : ∀ r H, Rp r H d v) : PD X Z e (dC d) := PEimp h fun σ H Qv ⟨r, dl, S, Q, rs, rel, h, ret⟩ => ret v H r d S Ext.refl rel (q r H) h
theorem pd_int {i j pos} : PD X Z (.Constant (.int i) j pos) (dC (.int i)) := pd_of_c pe_int fun _ _ => .int i
theorem pd_bl {b j pos} : PD X Z (.Constant (.bool b) j pos) (dC (.bl b)) := pd_of_c pe_bl fun _ _ => .bl b
theorem pd_str {x j pos} : PD X Z (.Constant (.str x) j pos) (dC (.str x)) := pd_of_c pe_str fun _ _ => .str x

/-! ### operations -/
abbrev W2 := D → D → Sto → DK → Prop
abbrev W1 := D → Sto → DK → Prop
/-- an operation over plain data -/
def upO (K : PySem.W.Frag) (Z : Zx) (w : W2) : R2 := fun x y H Qv => ∃ r S dx dy Q, Rel K Z r S H ∧ Rp r H dx x ∧ Rp r H dy y ∧ w dx dy S Q ∧ Ret K Z r H Q Qv
def upU (K : PySem.W.Frag) (Z : Zx) (w : W1) : V → Hp → VK → Prop := fun x H Qv => ∃ r S dx Q, Rel K Z r S H ∧ Rp r H dx x ∧ w dx S Q ∧ Ret K Z r H Q Qv
def dOp (w : W2) (ta tb : TDE) : TDE := fun dl S Q => ta dl S fun x S1 => tb dl S1 fun y S2 => w x y S2 Q
def dUn (w : W1) (ta : TDE) : TDE := fun dl S Q => ta dl S fun x S1 => w x S1 Q
variable {a b c : Expr} {ta tb tc : TDE} {pos : Pos}
theorem up_op {w : W2} {σ : St} {H : Hp} {Qv : VK} (h : up X.K Z (dOp w ta tb) σ H Qv) : tOp (upO X.K Z w) (up X.K Z ta) (up X.K Z tb) σ H Qv := by
  obtain ⟨r, dl, S, Q, rs, rel, h, ret⟩ := h
  exact ⟨r, dl, S, _, rs, rel, h, fun v H1 r1 dx S1 e1 rel1 p1 h1 => ⟨r1, dl, S1, _, rs.ext e1, rel1, h1, fun v2 H2 r2 dy S2 e2 rel2 p2 h2 => ⟨r2, S2, dx, dy, Q, rel2, p1.ext e2, p2, h2, ret.ext (e1.trans e2)⟩⟩⟩
theorem pd_op {op : Operator} {w : W2} (ho : OpR X (binaryOp op) (upO X.K Z w)) (ha : PD X Z a ta) (hb : PD X Z b tb) : PD X Z (.BinOp a op b pos) (dOp w ta tb) := PEimp (pe_op ho ha hb) fun _ _ _ h => up_op h
theorem pd_un {op : UnaryOp} {w : W1} (ho : UnR X (unaryOp op) (upU X.K Z w)) (ha : PD X Z a ta) : PD X Z (.UnaryOp op a pos) (dUn w ta) := PEimp (pe_un ho ha) fun σ H Qv ⟨r, dl, S, Q, rs, rel, h, ret⟩ =>
  ⟨r, dl, S, _, rs, rel, h, fun v H1 r1 dx S1 e1 rel1 p1 h1 => ⟨r1, S1, dx, Q, rel1, p1, h1, ret.ext e1⟩⟩
theorem pd_cmp {op : CmpOp} {w : W2} (ho : OpR X (compareOp op) (upO X.K Z w)) (ha : PD X Z a ta) (hb : PD X Z b tb) (hm : behindInMarks op b = false) : PD X Z (.Compare a [op] [b] pos) (dOp w ta tb) := PEimp (pe_cmpR ho ha hb hm) fun _ _ _ h => up_op h
theorem OpRimp {f : Value → Value → Sem Value} {r r' : R2} (h : OpR X f r) (g : ∀ x y H Q, r' x y H Q → r x y H Q) : OpR X f r' := fun pins s σ H x y v u Q I rx ry q => h pins s σ H x y v u Q I rx ry (g x y H Q q)
theorem UnRimp {f : Value → Sem Value} {r r' : V → Hp → VK → Prop} (h : UnR X f r) (g : ∀ x H Q, r' x H Q → r x H Q) : UnR X f r' := fun pins s σ H x v Q I rx q => h pins s σ H x v Q I rx (g x H Q q)
theorem CallRimp {f : Value} {r r' : List V → Hp → VK → Prop} (h : CallR X f r) (g : ∀ x H Q, r' x H Q → r x H Q) : CallR X f r' := fun pins s σ H xs us Q I rx q => h pins s σ H xs us Q I rx (g xs H Q q)
/-- ints in, under C, plain data out -/
def wI (C : Int → Int → Prop) (g : Int → Int → D) : W2 := fun x y S Q => match x, y with
  | .int i, .int j => C i j ∧ Q (g i j) S
  | _, _ => False
def wI0 (g : Int → Int → D) : W2 := fun x y S Q => match x, y with
  | .int i, .int j => Q (g i j) S
  | _, _ => False
theorem opD {f : Value → Value → Sem Value} {C : Int → Int → Prop} {g : Int → Int → V} {g' : Int → Int → D} (h : OpR X f (rI C g)) (hg : ∀ r H i j, Rp r H (g' i j) (g i j)) : OpR X f (upO X.K Z (wI C g')) :=
  OpRimp h fun x y H Qv ⟨r, S, dx, dy, Q, rel, px, py, q, ret⟩ => by
    cases px <;> cases py <;> first
      | exact ⟨_, _, rfl, rfl, q.1, ret _ _ _ _ _ Ext.refl rel (hg _ _ _ _) q.2⟩
      | exact (show False from q).elim
theorem opD0 {f : Value → Value → Sem Value} {g : Int → Int → V} {g' : Int → Int → D} (h : OpR X f (rI0 g)) (hg : ∀ r H i j, Rp r H (g' i j) (g i j)) : OpR X f (upO X.K Z (wI0 g')) :=
  OpRimp h fun x y H Qv ⟨r, S, dx, dy, Q, rel, px, py, q, ret⟩ => by
    cases px <;> cases py <;> first
      | exact ⟨_, _, rfl, rfl, ret _ _ _ _ _ Ext.refl rel (hg _ _ _ _) q⟩
      | exact (show False from q).elim
abbrev wAdd : W2 := wI0 fun i j => .int (i + j)
abbrev wSub : W2 := wI0 fun i j => .int (i - j)
abbrev wMul : W2 := wI IntMulOk fun i j => .int (i * j)
/-- by a positive divisor -/
def CFd (_ j : Int) : Prop := 0 < j ∧ j.natAbs.log2 < 9000
abbrev wFdiv : W2 := wI CFd fun i j => .int (i / j)
def CFn (_ j : Int) : Prop := j ≠ 0 ∧ j.natAbs.log2 < 9000
abbrev wFdivN : W2 := wI CFn fun i j => .int (i.fdiv j)
abbrev wMod : W2 := wI (fun _ j => 0 < j) fun i j => .int (i % j)
abbrev wModN : W2 := wI (fun _ j => j ≠ 0) fun i j => .int (i.fmod j)
abbrev wPow : W2 := wI CPow fun i j => .int (i ^ j.toNat)
theorem do_add : OpR X (binaryOp .Add) (upO X.K Z wAdd) := opD0 op_add fun _ _ _ _ => .int _
theorem do_sub : OpR X (binaryOp .Sub) (upO X.K Z wSub) := opD0 op_sub fun _ _ _ _ => .int _
theorem do_mul : OpR X (binaryOp .Mult) (upO X.K Z wMul) := opD (opI fun _ _ _ _ _ _ _ hc q => mul_int q hc) fun _ _ _ _ => .int _
theorem do_fdiv : OpR X (binaryOp .FloorDiv) (upO X.K Z wFdiv) := opD (opI fun i j _ _ _ _ _ hc q => floordiv_int (by have h : 0 < j := hc.1; omega) (by have h : 0 < j := hc.1; rw [Int.fdiv_eq_ediv_of_nonneg i (by omega)]; exact q) (.inl (PyProof.noPylong_of_log2 hc.2))) fun _ _ _ _ => .int _
theorem do_fdivN : OpR X (binaryOp .FloorDiv) (upO X.K Z wFdivN) := opD (opI fun _ _ _ _ _ _ _ hc q => floordiv_int hc.1 q (.inl (PyProof.noPylong_of_log2 hc.2))) fun _ _ _ _ => .int _
theorem do_mod : OpR X (binaryOp .Mod) (upO X.K Z wMod) := opD op_mod fun _ _ _ _ => .int _
theorem do_pow : OpR X (binaryOp .Pow) (upO X.K Z wPow) := opD op_pow fun _ _ _ _ => .int _
abbrev wLt : W2 := wI0 fun i j => .bl (decide (i < j))
abbrev wLe : W2 := wI0 fun i j => .bl (decide (i ≤ j))
abbrev wGt : W2 := wI0 fun i j => .bl (decide (j < i))
abbrev wGe : W2 := wI0 fun i j => .bl (decide (j ≤ i))
theorem do_lt : OpR X (compareOp .Lt) (upO X.K Z wLt) := opD0 op_lt fun _ _ _ _ => .bl _
theorem do_le : OpR X (compareOp .LtE) (upO X.K Z wLe) := opD0 op_le fun _ _ _ _ => .bl _
theorem do_gt : OpR X (compareOp .Gt) (upO X.K Z wGt) := opD0 op_gt fun _ _ _ _ => .bl _
theorem do_ge : OpR X (compareOp .GtE) (upO X.K Z wGe) := opD0 op_ge fun _ _ _ _ => .bl _
def wNeg : W1 := fun x S Q => match x with
  | .int i => Q (.int (-i)) S
  | _ => False
theorem do_neg : UnR X (unaryOp .USub) (upU X.K Z wNeg) := UnRimp un_neg fun x H Qv ⟨r, S, dx, Q, rel, px, q, ret⟩ => by
  cases px <;> first
    | exact ⟨_, rfl, ret _ _ _ _ _ Ext.refl rel (.int _) q⟩
    | exact (show False from q).elim
end
end L3

/-! ### == and != -/
namespace L3
open PySem PySem.Spec PyProof.Rows L2
/-- flat data -/
def eqF : D → D → Option Bool
  | .non, .non => some true
  | .bl i, .bl j => some (i == j)
  | .int i, .int j => some (decide (i = j))
  | .str i, .str j => some (decide (i = j))
  | .non, .int _ => some false | .int _, .non => some false | .non, .bl _ => some false | .bl _, .non => some false | .non, .str _ => some false | .str _, .non => some false
  | .int _, .str _ => some false | .str _, .int _ => some false | .bl _, .str _ => some false | .str _, .bl _ => some false
  | _, _ => none
def eqL (f : D → D → Option Bool) : List D → List D → Option Bool
  | [], [] => some true
  | x :: xs, y :: ys => match f x y, eqL f xs ys with
    | some b, some c => some (b && c)
    | _, _ => none
  | _, _ => some false
/-- tuples of such -/
def eqT (f : D → D → Option Bool) : D → D → Option Bool
  | .tup xs, .tup ys => eqL f xs ys
  | x, y => eqF x y
abbrev eq1 : D → D → Option Bool := eqT eqF
abbrev eq2 : D → D → Option Bool := eqT eq1
/-- the comparison's answer, n units deep -/
def EqOk (n : Nat) (f : D → D → Option Bool) : Prop := ∀ (X : Cx) (pins : List (Addr × Obj)) (σ : St) (H : Hp) (s : Shared) (r : List Addr) (A : Around) (dx dy : D) (x y : V) (u v : Value) (b : Bool),
  Inv X pins σ H s → A.units + n < cLine → Rp r H dx x → Rp r H dy y → RelV x u → RelV y v → f dx dy = some b → SeqAt.EqAt A s u v b
/-- one thing is like itself -/
def EqSame (f : D → D → Option Bool) : Prop := ∀ (r : List Addr) (H : Hp) (dx dy : D) (x : V) (b : Bool), Rp r H dx x → Rp r H dy x → f dx dy = some b → b = true
theorem eqF_same : EqSame eqF := by
  intro r H dx dy x b px py e
  cases px <;> cases py <;> simp [eqF] at e <;> first | exact e.symm | exact e
theorem eqL_same {f : D → D → Option Bool} (hf : EqSame f) {r : List Addr} {H : Hp} : ∀ {xs ys : List D} {vs : List V} {b : Bool}, Rps r H xs vs → Rps r H ys vs → eqL f xs ys = some b → b = true
  | [], [], _, b, _, _, e => by simp [eqL] at e; exact e
  | [], y :: ys, vs, b, p, q, e => by
    have h1 := p.unnil
    subst h1
    exact absurd q.1 (by simp)
  | x :: xs, [], vs, b, p, q, e => by
    have h1 := q.unnil
    subst h1
    exact absurd p.1 (by simp)
  | x :: xs, y :: ys, vs, b, p, q, e => by
    obtain ⟨v, vs', rfl, p1, p2⟩ := p.uncons
    obtain ⟨q1, q2⟩ := q.tail
    unfold eqL at e
    split at e
    · rename_i b1 c1 e1 e2
      have h1 := hf r H x y v b1 p1 q1 e1
      have h2 := eqL_same hf p2 q2 e2
      subst h1; subst h2
      simp at e
      exact e
    · cases e
theorem eqT_same {f : D → D → Option Bool} (hf : EqSame f) : EqSame (eqT f) := by
  intro r H dx dy x b px py e
  cases px with
  | tup e1 l1 f1 =>
    cases py with
    | tup e2 l2 f2 =>
      rw [e1] at e2; cases e2
      exact eqL_same hf ⟨l1, f1⟩ ⟨l2, f2⟩ e
    | ref h => simp [eqT, eqF] at e
    | exc h => simp [eqT, eqF] at e
  | non => exact eqF_same r H _ _ _ b .non py (by cases py <;> exact e)
  | bl i => exact eqF_same r H _ _ _ b (.bl i) py (by cases py <;> exact e)
  | int i => exact eqF_same r H _ _ _ b (.int i) py (by cases py <;> exact e)
  | str i => exact eqF_same r H _ _ _ b (.str i) py (by cases py <;> exact e)
  | ref h => cases py <;> simp [eqT, eqF] at e
  | exc h => cases py <;> simp [eqT, eqF] at e
theorem eqF_ok (n : Nat) : EqOk n eqF := by
  intro X pins σ H s r A dx dy x y u v b I hu px py rx ry e
  have fin : ∀ {x y : V}, RelV x u → RelV y v → flatV x = true → flatV y = true → eqV x y = b → SeqAt.EqAt A s u v b := fun rx ry fx fy e' => by
    subst e'; exact eqAt_V rx ry fx fy
  cases px <;> cases py <;> simp [eqF] at e <;> refine fin rx ry rfl rfl ?_ <;> simp [eqV, e] <;> first | exact e | (subst e; simp) | skip
theorem tup_of {X : Cx} {pins : List (Addr × Obj)} {σ : St} {H : Hp} {s : Shared} {a : Addr} {xs : List V} (I : Inv X pins σ H s) (h : H a = some (.tup xs)) : ∃ its : List Value, Vals xs its ∧ IsTup s.heap a its.toArray ∧ xs.length ≤ sizeLine := I.tuple (SqT.of h)
/-- the items' answers -/
def eqAtI (f : D → D → Option Bool) (xs ys : List D) (j : Nat) : Bool := match xs[j]?, ys[j]? with
  | some x, some y => (f x y).getD false
  | _, _ => false
theorem eqL_items {f : D → D → Option Bool} : ∀ {xs ys : List D} {b : Bool}, eqL f xs ys = some b → (∀ (j : Nat) (x y : D), xs[j]? = some x → ys[j]? = some y → ∃ c, f x y = some c) ∧ ((List.range (min xs.length ys.length)).all (eqAtI f xs ys) && xs.length == ys.length) = b
  | [], [], b, e => by simp [eqL] at e; subst e; simp
  | [], y :: ys, b, e => by simp [eqL] at e; subst e; simp
  | x :: xs, [], b, e => by simp [eqL] at e; subst e; simp
  | x :: xs, y :: ys, b, e => by
    unfold eqL at e
    split at e
    · rename_i b1 c1 e1 e2
      obtain ⟨h1, h2⟩ := eqL_items e2
      refine ⟨fun j p q hp hq => ?_, ?_⟩
      · cases j with
        | zero => simp at hp hq; subst hp; subst hq; exact ⟨b1, e1⟩
        | succ j => exact h1 j p q (by simpa using hp) (by simpa using hq)
      · have z : min (x :: xs).length (y :: ys).length = min xs.length ys.length + 1 := by simp [Nat.succ_min_succ]
        rw [z, List.range_succ_eq_map, List.all_cons, List.all_map]
        have e0 : eqAtI f (x :: xs) (y :: ys) 0 = b1 := by simp [eqAtI, e1]
        have es : (eqAtI f (x :: xs) (y :: ys) ∘ Nat.succ) = eqAtI f xs ys := by funext j; simp [eqAtI]
        rw [e0, es]
        have e3 : ((x :: xs).length == (y :: ys).length) = (xs.length == ys.length) := by simp
        rw [e3, Bool.and_assoc, h2]
        simp at e
        exact e
    · cases e
theorem items_ok {n : Nat} {f : D → D → Option Bool} (hf : EqOk n f) {X : Cx} {pins : List (Addr × Obj)} {σ : St} {H : Hp} {s : Shared} {r : List Addr} {A : Around} {xs ys : List D} {us vs : List V} {is js : List Value} {b : Bool}
    (I : Inv X pins σ H s) (hu : A.units + n < cLine) (p : Rps r H xs us) (q : Rps r H ys vs) (ri : Vals us is) (rj : Vals vs js) (e : eqL f xs ys = some b) :
    (∀ j (h1 : j < is.toArray.size) (h2 : j < js.toArray.size), SeqAt.EqAt A s is.toArray[j] js.toArray[j] (eqAtI f xs ys j)) ∧ ((List.range (min is.toArray.size js.toArray.size)).all (eqAtI f xs ys) && is.toArray.size == js.toArray.size) = b := by
  obtain ⟨h1, h2⟩ := eqL_items e
  have l1 : is.toArray.size = xs.length := by rw [List.size_toArray, ← ri.length, p.1]
  have l2 : js.toArray.size = ys.length := by rw [List.size_toArray, ← rj.length, q.1]
  refine ⟨fun j hj1 hj2 => ?_, by rw [l1, l2]; exact h2⟩
  have k1 : j < xs.length := by omega
  have k2 : j < ys.length := by omega
  have g1 : xs[j]? = some xs[j] := by simp [k1]
  have g2 : ys[j]? = some ys[j] := by simp [k2]
  obtain ⟨x, gx, px⟩ := p.get g1
  obtain ⟨y, gy, py⟩ := q.get g2
  obtain ⟨u, gu, ru⟩ := ri.get gx
  obtain ⟨v, gv, rv⟩ := rj.get gy
  obtain ⟨c, hc⟩ := h1 j _ _ g1 g2
  have eu : is.toArray[j] = u := by
    have z := List.getElem?_eq_some_iff.mp gu
    simpa using z.2
  have ev : js.toArray[j] = v := by
    have z := List.getElem?_eq_some_iff.mp gv
    simpa using z.2
  have ec : eqAtI f xs ys j = c := by simp [eqAtI, g1, g2, hc]
  rw [eu, ev, ec]
  exact hf X pins σ H s r A _ _ x y u v c I hu px py ru rv hc
theorem eqT_ok {n : Nat} {f : D → D → Option Bool} (hf : EqOk n f) (hs : EqSame f) : EqOk (n + 1) (eqT f) := by
  intro X pins σ H s r A dx dy x y u v b I hu px py rx ry e
  have flat : ∀ {dx dy : D} {x y : V}, Rp r H dx x → Rp r H dy y → RelV x u → RelV y v → eqF dx dy = some b → SeqAt.EqAt A s u v b := fun px py rx ry e => eqF_ok (n + 1) X pins σ H s r A _ _ _ _ u v b I hu px py rx ry e
  cases px with
  | @tup ds xs a e1 l1 f1 =>
    cases py with
    | @tup es ys a' e2 l2 f2 =>
      cases rx
      cases ry
      by_cases z : a = a'
      · subst z
        have hb := eqT_same hs r H _ _ _ b (.tup e1 l1 f1) (.tup e2 l2 f2) e
        subst hb
        exact SeqAt.EqAt.same _
      · obtain ⟨is, ri, ti, _⟩ := tup_of I e1
        obtain ⟨js, rj, tj, _⟩ := tup_of I e2
        obtain ⟨g1, g2⟩ := items_ok (A := A.in1) hf I (by show A.units + 1 + n < _; omega) ⟨l1, f1⟩ ⟨l2, f2⟩ ri rj e
        have q := SeqAt.RcAt.tuples (A := A) ti tj (by omega) g1
        rw [g2] at q
        exact SeqAt.EqAt.of_refs z q
    | ref h => simp [eqT, eqF] at e
    | _ => simp [eqT, eqF] at e
  | non => exact flat .non py rx ry (by cases py <;> exact e)
  | bl i => exact flat (.bl i) py rx ry (by cases py <;> exact e)
  | int i => exact flat (.int i) py rx ry (by cases py <;> exact e)
  | str i => exact flat (.str i) py rx ry (by cases py <;> exact e)
  | ref h => cases py <;> simp [eqT, eqF] at e
  | exc h => cases py <;> simp [eqT, eqF] at e
theorem eq1_ok (n : Nat) : EqOk (n + 1) eq1 := eqT_ok (eqF_ok n) eqF_same
def wEq (f : D → D → Option Bool) : W2 := fun x y S Q => match f x y with
  | some b => Q (.bl b) S
  | none => False
def wNe (f : D → D → Option Bool) : W2 := fun x y S Q => match f x y with
  | some b => Q (.bl (!b)) S
  | none => False
section
variable {X : Cx} {Z : Zx}
theorem eqF_flat {r : List Addr} {H : Hp} {dx dy : D} {x y : V} {b : Bool} (px : Rp r H dx x) (py : Rp r H dy y) (e : eqF dx dy = some b) : scal x y = true ∧ decide (x = y) = b := by
  cases px <;> cases py <;> simp [eqF] at e <;> simp [scal] <;> first | exact e | (subst e; simp) | skip
theorem do_eqT {n : Nat} {f : D → D → Option Bool} (hf : EqOk n f) (hu : X.A.units + 1 + n < cLine) : OpR X (compareOp .Eq) (upO X.K Z (wEq (eqT f))) := by
  intro pins s σ H x y v u Qv I rx ry h
  obtain ⟨r, S, dx, dy, Q, rel, px, py, q, ret⟩ := h
  unfold wEq at q
  split at q
  · rename_i b e
    have flat : ∀ {dx dy : D} {x y : V}, Rp r H dx x → Rp r H dy y → RelV x v → RelV y u → eqF dx dy = some b → wpAny (model X.prog X.w) X.A (compareOp .Eq v u) (EP X pins σ Qv) X.xe s := fun px py rx ry e => by
      obtain ⟨h1, h2⟩ := eqF_flat px py e
      refine op_eq pins s σ H _ _ v u Qv I rx ry ⟨h1, ?_⟩
      rw [h2]
      exact ret _ _ _ _ _ Ext.refl rel (.bl b) q
    cases px with
    | @tup ds xs a e1 l1 f1 =>
      cases py with
      | @tup es ys a' e2 l2 f2 =>
        cases rx
        cases ry
        obtain ⟨is, ri, ti, _⟩ := tup_of I e1
        obtain ⟨js, rj, tj, _⟩ := tup_of I e2
        obtain ⟨g1, g2⟩ := items_ok (A := X.A.in1) hf I (by show X.A.units + 1 + n < _; omega) ⟨l1, f1⟩ ⟨l2, f2⟩ ri rj e
        refine SeqAt.eq_tupleAt (A := X.A) ti tj (by omega) g1 ?_
        rw [g2]
        exact ⟨.bl b, H, I, rfl, ret _ _ _ _ _ Ext.refl rel (.bl b) q⟩
      | _ => simp [eqT, eqF] at e
    | non => exact flat .non py rx ry (by cases py <;> exact e)
    | bl i => exact flat (.bl i) py rx ry (by cases py <;> exact e)
    | int i => exact flat (.int i) py rx ry (by cases py <;> exact e)
    | str i => exact flat (.str i) py rx ry (by cases py <;> exact e)
    | ref h => cases py <;> simp [eqT, eqF] at e
    | exc h => cases py <;> simp [eqT, eqF] at e
  · exact q.elim
theorem do_neT {n : Nat} {f : D → D → Option Bool} (hf : EqOk n f) (hu : X.A.units + 1 + n < cLine) : OpR X (compareOp .NotEq) (upO X.K Z (wNe (eqT f))) := by
  intro pins s σ H x y v u Qv I rx ry h
  obtain ⟨r, S, dx, dy, Q, rel, px, py, q, ret⟩ := h
  unfold wNe at q
  split at q
  · rename_i b e
    have flat : ∀ {dx dy : D} {x y : V}, Rp r H dx x → Rp r H dy y → RelV x v → RelV y u → eqF dx dy = some b → wpAny (model X.prog X.w) X.A (compareOp .NotEq v u) (EP X pins σ Qv) X.xe s := fun px py rx ry e => by
      obtain ⟨h1, h2⟩ := eqF_flat px py e
      refine op_ne pins s σ H _ _ v u Qv I rx ry ⟨h1, ?_⟩
      rw [h2]
      exact ret _ _ _ _ _ Ext.refl rel (.bl (!b)) q
    cases px with
    | @tup ds xs a e1 l1 f1 =>
      cases py with
      | @tup es ys a' e2 l2 f2 =>
        cases rx
        cases ry
        obtain ⟨is, ri, ti, _⟩ := tup_of I e1
        obtain ⟨js, rj, tj, _⟩ := tup_of I e2
        obtain ⟨g1, g2⟩ := items_ok (A := X.A.in1) hf I (by show X.A.units + 1 + n < _; omega) ⟨l1, f1⟩ ⟨l2, f2⟩ ri rj e
        refine SeqAt.RcNeAt.tuples (A := X.A) ti tj (by omega) g1 X.prog X.w _ _ ?_
        rw [g2]
        exact ⟨.bl (!b), H, I, rfl, ret _ _ _ _ _ Ext.refl rel (.bl (!b)) q⟩
      | _ => simp [eqT, eqF] at e
    | non => exact flat .non py rx ry (by cases py <;> exact e)
    | bl i => exact flat (.bl i) py rx ry (by cases py <;> exact e)
    | int i => exact flat (.int i) py rx ry (by cases py <;> exact e)
    | str i => exact flat (.str i) py rx ry (by cases py <;> exact e)
    | ref h => cases py <;> simp [eqT, eqF] at e
    | exc h => cases py <;> simp [eqT, eqF] at e
  · exact q.elim
/-- .. within the room of a call -/
theorem do_eq {k : Nat} (hr : Room k X.A) : OpR X (compareOp .Eq) (upO X.K Z (wEq eq2)) := do_eqT (eq1_ok 0) (by have := hr.un; omega)
theorem do_ne {k : Nat} (hr : Room k X.A) : OpR X (compareOp .NotEq) (upO X.K Z (wNe eq2)) := do_neT (eq1_ok 0) (by have := hr.un; omega)
end
end L3

/-! ### tests, and, or, not -/
namespace L3
open PySem PySem.Spec PyProof.Rows L2
section
variable {X : Cx} {Z : Zx} {a b c : Expr} {ta tb tc : TDE} {pos : Pos} {rest : List Expr}
def dTest (t : TDE) : TDT := fun dl S Q => t dl S fun d S' => match d with
  | .bl k => Q k S'
  | _ => False
theorem test_ret {K : PySem.W.Frag} {Z : Zx} {r : List Addr} {H : Hp} {Q : Bool → Sto → Prop} {Qb : Bool → Hp → Prop} (h : ∀ b H' r' S', Ext r r' H H' → Rel K Z r' S' H' → Q b S' → Qb b H') :
    Ret K Z r H (fun d S' => match d with | .bl k => Q k S' | _ => False) (fun x H' => ∃ k, x = .bl k ∧ Qb k H') := fun v H' r' d S' e rel p q => by
  cases p with
  | bl k => exact ⟨k, rfl, h k H' r' S' e rel q⟩
  | _ => exact (show False from q).elim
theorem pdt_cmp {op : CmpOp} {w : W2} (ho : OpR X (compareOp op) (upO X.K Z w)) (ha : PD X Z a ta) (hb : PD X Z b tb) (hm : behindInMarks op b = false) : PDT X Z (.Compare a [op] [b] pos) (dTest (dOp w ta tb)) :=
  PTimp (pt_cmpR ho ha hb hm) fun σ H Qb ⟨r, dl, S, Q, rs, rel, h, ret⟩ => up_op ⟨r, dl, S, _, rs, rel, h, test_ret ret⟩
theorem pdt_val {e : Expr} {t : TDE} (h : PD X Z e t) (he : ∀ whole, isTrue e X.env whole = (do let v ← whole; standAt e.pos; holding [v] (truthy v)) := by intro _; rfl) : PDT X Z e (dTest t) :=
  PTimp (pt_val h he) fun σ H Qb ⟨r, dl, S, Q, rs, rel, h, ret⟩ => ⟨r, dl, S, _, rs, rel, h, test_ret ret⟩
def dNot (t : TDT) : TDT := fun dl S Q => t dl S fun k S' => Q (!k) S'
theorem pdt_not {t : TDT} (ha : PDT X Z a t) : PDT X Z (.UnaryOp .Not a pos) (dNot t) :=
  PTimp (pt_not ha) fun σ H Qb ⟨r, dl, S, Q, rs, rel, h, ret⟩ => ⟨r, dl, S, _, rs, rel, h, fun k H' r' S' e rel' q => ret (!k) H' r' S' e rel' q⟩
def dAnd (t u : TDT) : TDT := fun dl S Q => t dl S fun k S1 => if k = true then u dl S1 Q else Q false S1
def dOr (t u : TDT) : TDT := fun dl S Q => t dl S fun k S1 => if k = true then Q true S1 else u dl S1 Q
theorem pdw_or1 {t : TDT} (ha : PDT X Z a t) : PDW X Z (.BoolOp .Or [a] pos) t := pw_or1 ha
theorem pdw_or {t u : TDT} (ha : PDT X Z a t) (hb : PDW X Z (.BoolOp .Or (b :: rest) pos) u) : PDW X Z (.BoolOp .Or (a :: b :: rest) pos) (dOr t u) :=
  PWimp (pw_or ha hb) fun σ H Qb ⟨r, dl, S, Q, rs, rel, h, ret⟩ => ⟨r, dl, S, _, rs, rel, h, fun k H1 r1 S1 e1 rel1 q1 => by
    cases k with
    | true => exact iteT (ret true H1 r1 S1 e1 rel1 (by simpa using q1))
    | false => exact iteF ⟨r1, dl, S1, Q, rs.ext e1, rel1, (by simpa using q1), fun k' H2 r2 S2 e2 => ret k' H2 r2 S2 (e1.trans e2)⟩⟩
/-- .. as values -/
def dAndV (ta tb : TDE) : TDE := fun dl S Q => ta dl S fun x S1 => match x with
  | .bl k => if k = true then tb dl S1 Q else Q (.bl false) S1
  | _ => False
def dOrV (ta tb : TDE) : TDE := fun dl S Q => ta dl S fun x S1 => match x with
  | .bl k => if k = true then Q (.bl true) S1 else tb dl S1 Q
  | _ => False
def dNotV (ta : TDE) : TDE := fun dl S Q => ta dl S fun x S1 => match x with
  | .bl k => Q (.bl (!k)) S1
  | _ => False
theorem pd_one {op} {t : TDE} (h : PD X Z a t) : PD X Z (.BoolOp op [a] pos) t := pe_one h
theorem pd_and (ha : PD X Z a ta) (hb : PD X Z (.BoolOp .And (b :: rest) pos) tb) : PD X Z (.BoolOp .And (a :: b :: rest) pos) (dAndV ta tb) :=
  PEimp (pe_and ha hb) fun σ H Qv ⟨r, dl, S, Q, rs, rel, h, ret⟩ => ⟨r, dl, S, _, rs, rel, h, fun v H1 r1 d S1 e1 rel1 p q1 => by
    cases p with
    | bl k =>
      refine ⟨k, rfl, ?_⟩
      cases k with
      | true => exact iteT ⟨r1, dl, S1, Q, rs.ext e1, rel1, (by simpa using q1), ret.ext e1⟩
      | false => exact iteF (ret _ H1 r1 (.bl false) S1 e1 rel1 (.bl false) (by simpa using q1))
    | _ => exact (show False from q1).elim⟩
theorem pd_or (ha : PD X Z a ta) (hb : PD X Z (.BoolOp .Or (b :: rest) pos) tb) : PD X Z (.BoolOp .Or (a :: b :: rest) pos) (dOrV ta tb) :=
  PEimp (pe_or ha hb) fun σ H Qv ⟨r, dl, S, Q, rs, rel, h, ret⟩ => ⟨r, dl, S, _, rs, rel, h, fun v H1 r1 d S1 e1 rel1 p q1 => by
    cases p with
    | bl k =>
      refine ⟨k, rfl, ?_⟩
      cases k with
      | true => exact iteT (ret _ H1 r1 (.bl true) S1 e1 rel1 (.bl true) (by simpa using q1))
      | false => exact iteF ⟨r1, dl, S1, Q, rs.ext e1, rel1, (by simpa using q1), ret.ext e1⟩
    | _ => exact (show False from q1).elim⟩
theorem pd_not (ha : PD X Z a ta) : PD X Z (.UnaryOp .Not a pos) (dNotV ta) :=
  PEimp (pe_not ha) fun σ H Qv ⟨r, dl, S, Q, rs, rel, h, ret⟩ => ⟨r, dl, S, _, rs, rel, h, fun v H1 r1 d S1 e1 rel1 p q1 => by
    cases p with
    | bl k => exact ⟨k, rfl, ret _ H1 r1 (.bl (!k)) S1 e1 rel1 (.bl (!k)) q1⟩
    | _ => exact (show False from q1).elim⟩
def dIfE (t : TDT) (ta tb : TDE) : TDE := fun dl S Q => t dl S fun k S1 => if k = true then ta dl S1 Q else tb dl S1 Q
theorem pd_ifExp {t : TDT} (hc : PDT X Z c t) (ha : PD X Z a ta) (hb : PD X Z b tb) : PD X Z (.IfExp c a b pos) (dIfE t ta tb) :=
  PEimp (pe_ifExp hc ha hb) fun σ H Qv ⟨r, dl, S, Q, rs, rel, h, ret⟩ => ⟨r, dl, S, _, rs, rel, h, fun k H1 r1 S1 e1 rel1 q1 => by
    cases k with
    | true => exact iteT ⟨r1, dl, S1, Q, rs.ext e1, rel1, (by simpa using q1), ret.ext e1⟩
    | false => exact iteF ⟨r1, dl, S1, Q, rs.ext e1, rel1, (by simpa using q1), ret.ext e1⟩⟩
/-- a op1 b op2 c -/
def dChain (w w' : W2) (ta tb tc : TDE) : TDE := fun dl S Q => ta dl S fun x S1 => tb dl S1 fun y S2 => w x y S2 fun z S3 => match z with
  | .bl k => if k = true then tc dl S3 fun u S4 => w' y u S4 Q else Q (.bl false) S3
  | _ => False
theorem up_chain {w w' : W2} {σ : St} {H : Hp} {Qv : VK} (h : up X.K Z (dChain w w' ta tb tc) σ H Qv) : tChain (upO X.K Z w) (upO X.K Z w') (up X.K Z ta) (up X.K Z tb) (up X.K Z tc) σ H Qv := by
  obtain ⟨r, dl, S, Q, rs, rel, h, ret⟩ := h
  refine ⟨r, dl, S, _, rs, rel, h, fun v H1 r1 dx S1 e1 rel1 p1 h1 => ⟨r1, dl, S1, _, rs.ext e1, rel1, h1, fun v2 H2 r2 dy S2 e2 rel2 p2 h2 => ⟨r2, S2, dx, dy, _, rel2, p1.ext e2, p2, h2, fun v3 H3 r3 dz S3 e3 rel3 p3 h3 => ?_⟩⟩⟩
  cases p3 with
  | bl k =>
    refine ⟨k, rfl, ?_⟩
    cases k with
    | true => exact iteT ⟨r3, dl, S3, _, rs.ext (e1.trans (e2.trans e3)), rel3, (by simpa using h3), fun v4 H4 r4 du S4 e4 rel4 p4 h4 => ⟨r4, S4, dy, du, Q, rel4, (p2.ext e3).ext e4, p4, h4, ret.ext (e1.trans (e2.trans (e3.trans e4)))⟩⟩
    | false => exact iteF (ret _ H3 r3 (.bl false) S3 (e1.trans (e2.trans e3)) rel3 (.bl false) (by simpa using h3))
  | _ => exact (show False from h3).elim
theorem pd_chain {op op' : CmpOp} {w w' : W2} (ho : OpR X (compareOp op) (upO X.K Z w)) (ho' : OpR X (compareOp op') (upO X.K Z w')) (ha : PD X Z a ta) (hb : PD X Z b tb) (hc : PD X Z c tc)
    (hm : lastMarks [op, op'] [b, c] = false := by with_unfolding_all rfl) : PD X Z (.Compare a [op, op'] [b, c] pos) (dChain w w' ta tb tc) := PEimp (pe_chain ho ho' ha hb hc hm) fun _ _ _ h => up_chain h
/-- is None -/
def isNon : D → Bool
  | .non => true
  | _ => false
def wIsN : W2 := fun x y S Q => match y with
  | .non => Q (.bl (isNon x)) S
  | _ => False
def wNotN : W2 := fun x y S Q => match y with
  | .non => Q (.bl (!isNon x)) S
  | _ => False
/-! ### argument lists, displays -/
variable {e : Expr} {es : List Expr}
def dNil : TDA := fun _ S Q => Q [] S
def dCons (ta : TDE) (tr : TDA) : TDA := fun dl S Q => ta dl S fun x S1 => tr dl S1 fun xs S2 => Q (x :: xs) S2
theorem pda_nil : PDA X Z [] dNil := PAimp pa_nil fun σ H Qv ⟨r, dl, S, Q, rs, rel, h, ret⟩ => ret [] H r [] S Ext.refl rel Rps.nil h
theorem pda_cons {te : TDE} {t : TDA} (ha : PD X Z e te) (hr : PDA X Z es t) (hs : starEach (e :: es) X.env = (false, eval e X.env) :: starEach es X.env := by rfl) : PDA X Z (e :: es) (dCons te t) :=
  PAimp (pa_cons ha hr hs) fun σ H Qv ⟨r, dl, S, Q, rs, rel, h, ret⟩ => ⟨r, dl, S, _, rs, rel, h, fun v H1 r1 d S1 e1 rel1 p1 h1 => ⟨r1, dl, S1, _, rs.ext e1, rel1, h1, fun vs H2 r2 ds S2 e2 rel2 p2 h2 =>
    ret (v :: vs) H2 r2 (d :: ds) S2 (e1.trans e2) rel2 (Rps.cons (p1.ext e2) p2) h2⟩⟩
def dTup (t : TDA) : TDE := fun dl S Q => t dl S fun ds S1 => if ds.length ≤ 1000 then Q (.tup ds) S1 else False
def dLst (t : TDA) : TDE := fun dl S Q => t dl S fun ds S1 => if ds.length ≤ 1000 then Q (.ref S1.length) (S1 ++ [.lst ds]) else False
theorem ite_of {A : Prop} {p : Prop} [Decidable p] (h : if p then A else False) : p ∧ A := by
  split at h
  · exact ⟨by assumption, h⟩
  · exact h.elim
theorem size1000 {n : Nat} (h : n ≤ 1000) : n ≤ sizeLine := Nat.le_of_lt (small1000 h)
theorem pd_tup {x1} {t : TDA} (h : PDA X Z es t) : PD X Z (.Tuple es x1 pos) (dTup t) :=
  PEimp (pe_tup h) fun σ H Qv ⟨r, dl, S, Q, rs, rel, h, ret⟩ => ⟨r, dl, S, _, rs, rel, h, fun vs H1 r1 ds S1 e1 rel1 p1 h1 => by
    obtain ⟨hl, h1⟩ := ite_of h1
    refine ⟨by rw [← p1.1]; exact size1000 hl, fun p hp => ?_⟩
    have x : Ext r1 r1 H1 (upd H1 p (.tup vs)) := ⟨fun _ _ q => q, fun a xs q => same_upd hp _ _ q, fun a c q => same_upd hp _ _ q⟩
    exact ret _ _ r1 (.tup ds) S1 (e1.trans x) (rel1.same (same_upd hp)) ((p1.ext x).tupR upd_same) h1⟩
theorem ref_last {r : List Addr} {p : Addr} {H : Hp} {n : Nat} (h : r.length = n) : Rp (r ++ [p]) H (.ref n) (.ref p) := .ref (by subst h; simp)
theorem pd_lst {t : TDA} (h : PDA X Z es t) : PD X Z (.List es pos) (dLst t) :=
  PEimp (pe_lst h) fun σ H Qv ⟨r, dl, S, Q, rs, rel, h, ret⟩ => ⟨r, dl, S, _, rs, rel, h, fun vs H1 r1 ds S1 e1 rel1 p1 h1 => by
    obtain ⟨hl, h1⟩ := ite_of h1
    refine ⟨by rw [← p1.1]; exact size1000 hl, fun p hp => ?_⟩
    obtain ⟨rel2, x⟩ := rel1.push hp p1
    exact ret _ _ _ (.ref S1.length) _ (e1.trans x) rel2 (ref_last rel1.len) h1⟩

/-! ### subscripts -/
def wIx : W2 := fun x y S Q => match x, y with
  | .tup xs, .int i => match atI xs i with
    | some d => Q d S
    | none => False
  | .ref n, .int i => match lAt S n with
    | some o => match atI (itemsOf o) i with
      | some d => Q d S
      | none => False
    | none => False
  | _, _ => False
theorem atI_rel {r : List Addr} {H : Hp} {ds : List D} {vs : List V} {i : Int} {d : D} (h : Rps r H ds vs) (e : atI ds i = some d) : ∃ v, atI vs i = some v ∧ Rp r H d v := by
  unfold atI at e ⊢
  rw [← h.1]
  cases q : ixN ds.length i with
  | none =>
   rw [q] at e
   cases e
  | some j =>
    rw [q] at e
    exact h.get e
theorem do_ix : IxR X (upO X.K Z wIx) := by
  intro value slice pins s σ H x y v u Qv I rx ry h hs
  obtain ⟨r, S, dx, dy, Q, rel, px, py, q, ret⟩ := h
  cases px with
  | @tup ds xs a e1 l1 f1 =>
    cases py with
    | int i =>
      have q' : (match atI ds i with | some d => Q d S | none => False) := q
      split at q'
      · rename_i d e
        obtain ⟨w, hw, pw⟩ := atI_rel ⟨l1, f1⟩ e
        exact ix_tup value slice pins s σ H _ _ v u Qv I rx ry ⟨a, xs, i, w, rfl, rfl, SqT.of e1, hw, ret w H r d S Ext.refl rel pw q'⟩ hs
      · exact q'.elim
    | _ => exact (show False from q).elim
  | @ref n a e1 =>
    cases py with
    | int i =>
      have q' : (match lAt S n with | some o => (match atI (itemsOf o) i with | some d => Q d S | none => False) | none => False) := q
      split at q'
      · rename_i o eo
        obtain ⟨eo, eL⟩ := lAt_some eo
        obtain ⟨a', ha, ob⟩ := rel.at eo
        rw [e1] at ha; cases ha
        obtain ⟨xs, sq, pr⟩ := ob.list eL
        split at q'
        · rename_i d e
          obtain ⟨w, hw, pw⟩ := atI_rel pr e
          exact ix_list value slice pins s σ H _ _ v u Qv I rx ry ⟨a, xs, i, w, rfl, rfl, sq, hw, ret w H r d S Ext.refl rel pw q'⟩ hs
        · exact q'.elim
      · exact q'.elim
    | _ => exact (show False from q).elim
  | _ => exact (show False from q).elim
theorem pd_ix (ha : PD X Z a ta) (hb : PD X Z b tb) (hs : PlainIx b) : PD X Z (.Subscript a b pos) (dOp wIx ta tb) := PEimp (pe_ix do_ix ha hb hs) fun _ _ _ h => up_op h
end
end L3


/-! ### exceptions of the text's own classes -/
namespace L3
open PySem PySem.Spec PyProof.Rows L2
/-- a tracked thing has its object -/
theorem obj_some {P : Program} {w : World} {H : Hp} {h : Heap} {a : Addr} : ∀ {o : HO}, ObjOk P w H h a o → ∃ ob, h.get? a = some ob
  | .lst _, x => by obtain ⟨_, _, _, _, e⟩ := x; exact ⟨_, e⟩
  | .tup _, x => by obtain ⟨_, _, _, ob, e, _⟩ := x; exact ⟨ob, e⟩
  | .dK _, x => by obtain ⟨_, _, _, _, ob, _, _, e, _⟩ := x; exact ⟨ob, e⟩
  | .dT _, x => by obtain ⟨_, _, _, _, ob, _, _, e, _⟩ := x; exact ⟨ob, e⟩
  | .set _ _, x => by obtain ⟨ob, _, _, _, e, _⟩ := x; exact ⟨ob, e⟩
  | .ins _ _ _, x => by obtain ⟨_, _, _, e, _⟩ := x; exact ⟨_, e⟩
  | .own _, x => x
  | .xd _, x => by obtain ⟨_, ⟨ob, _, _, e, _⟩, _⟩ := x; exact ⟨ob, e⟩
  | .rng _ _, x => by obtain ⟨_, _, _, e⟩ := x; exact ⟨_, e⟩
  | .frz ob _, x => ⟨ob, x.1⟩
  | .tbl _, x => ⟨_, x⟩
  | .met _ _, x => ⟨_, x⟩
  | .ext _, x => x.2.1
/-- what stays in B, the heap that no later step of the flight changes -/
structure Bk (fs : List Addr) (H H' : Hp) (B h : Heap) (ea : Addr) : Prop where
  trk : ∀ b u, H' b = some u → ∃ o, B.get? b = some o
  old : ∀ b o, h.get? b = some o → H b = none → b ∉ fs → B.get? b = some o
  all : ∀ b o, h.get? b = some o → b ∉ fs → ∃ o', B.get? b = some o'
  new : H' ea = none
/-- an exception behind a call: its class is the one at c, it has no attributes of its own -/
def CXE (P : Program) (w : World) : CXT := fun outer H s E e s' => ∃ (ea c : Addr) (a0 : Value) (B : Heap) (H' : Hp), e = .ref ea ∧ s'.os = s.os ∧ AllBare s'.gens ∧ Un (frs outer) [] H H' s.heap s'.heap ∧ HOk P w H' s'.heap ∧
  Heap.FlyingW B outer ea (.ref c) a0 s'.heap ∧ Bk (frs outer) H H' B s.heap ea ∧ E (.ref c) none H'
theorem hok_stays {P : Program} {w : World} {H' : Hp} {B h h' : Heap} (ok : HOk P w H' h) (trk : ∀ b u, H' b = some u → ∃ o, B.get? b = some o) (s1 : B.StaysIn h) (s2 : B.StaysIn h') : HOk P w H' h' := fun a o e =>
  (ok a o e).stay (fun b u hb q => by
    have ht : ∃ z, H' b = some z := by
      rcases hb with rfl | hb
      · exact ⟨o, e⟩
      · exact ⟨_, hb⟩
    obtain ⟨z, hz⟩ := ht
    obtain ⟨ob, eo⟩ := trk b z hz
    have := s1 b ob eo
    rw [q] at this
    cases this
    exact s2 b u eo) (fun _ z => z) fun _ _ z => z
section
variable {X : Cx} {pins : List (Addr × Obj)} {σ : St} {H : Hp} {s : Shared}
theorem own_frame {b : Addr} (I : Inv X pins σ H s) (hs : X.stack = X.env :: X.outer) (hf : X.env.frame = some X.env.locals) : b ∈ frs X.stack ↔ b = X.env.locals ∨ b ∈ X.fs := by
  rw [hs]
  unfold frs
  rw [List.filterMap_cons, hf]
  exact List.mem_cons
/-- the heap in flight, over a body's own entry -/
theorem un_flight {H' : Hp} {B h' : Heap} {s' : Shared} {ea c : Addr} {a0 : Value} (I : Inv X pins σ H s) (hex : X.ex = []) (hs : X.stack = X.env :: X.outer) (hf : X.env.frame = some X.env.locals)
    (un : Un (frs X.stack) [] H H' s.heap s'.heap) (fl : Heap.FlyingW B (X.env :: X.outer) ea (.ref c) a0 s'.heap) (fl' : Heap.FlyingW B X.outer ea (.ref c) a0 h') (up : s'.heap.UpToSlots h') (bk : Bk (frs X.stack) H H' B s.heap ea) :
    Un X.fs [] X.H₀ H' X.s₀.heap h' ∧ Bk X.fs X.H₀ H' B X.s₀.heap ea := by
  have nx : ∀ b : Addr, b ∉ X.ex := fun b z => by rw [hex] at z; exact absurd z (by simp)
  have nL : ∀ {b : Addr} {o : Obj}, X.s₀.heap.get? b = some o → b ≠ X.env.locals := fun {b o} e => Nat.ne_of_lt (Nat.lt_of_lt_of_le (Heap.lt_size e) I.ok.above)
  have nS : ∀ {b : Addr} {o : Obj}, X.s₀.heap.get? b = some o → b ∉ X.fs → b ∉ frs X.stack := fun {b o} e hb z => by
    rcases (own_frame I hs hf).mp z with z | z
    · exact nL e z
    · exact hb z
  have old : ∀ b o, X.s₀.heap.get? b = some o → X.H₀ b = none → b ∉ X.fs → B.get? b = some o := fun b o e n hb => bk.old b o (I.base.keep b o e n hb (nx b)) (I.base.free b o e n (nx b)) (nS e hb)
  have slot : ∀ b o, X.s₀.heap.get? b = some o → X.H₀ b = none → b ∈ X.fs → ∃ sl, h'.get? b = some { o with slots := sl } := fun b o e n hb => by
    obtain ⟨s1, e1⟩ := I.base.slot b o e n hb (nx b)
    have hm : b ∈ frs X.stack := (own_frame I hs hf).mpr (.inr hb)
    obtain ⟨s2, e2⟩ := un.slot b _ e1 (I.base.free b o e n (nx b)) hm (by simp)
    obtain ⟨_, o3, e3, d3⟩ := fl.2.2.1.mem (show b ∈ (X.env :: X.outer).filterMap (·.frame) by rw [← hs]; exact hm)
    rw [e2] at e3
    cases e3
    obtain ⟨sl, e4⟩ := up b _ e2 d3
    exact ⟨sl, e4⟩
  have all : ∀ b o, X.s₀.heap.get? b = some o → b ∉ X.fs → ∃ o', B.get? b = some o' := fun b o e hb => by
    obtain ⟨o1, e1⟩ := I.base.there b o e (nx b)
    exact bk.all b o1 e1 (nS e hb)
  refine ⟨⟨fun b o e n hb _ => fl'.1 b o (old b o e n hb), fun b o e n hb _ => slot b o e n hb, fun b o e n _ => ?_, fun b o e _ => ?_, fun b xs e => un.tups b xs (I.base.tups b xs e), fun b ob u e => un.frzs b ob u (I.base.frzs b ob u e), fun b ps e => ?_⟩, ⟨bk.trk, old, all, bk.new⟩⟩
  · obtain ⟨o1, e1⟩ := I.base.there b o e (nx b)
    exact un.free b o1 e1 (I.base.free b o e n (nx b)) (by simp)
  · by_cases hb : b ∈ X.fs
    · obtain ⟨sl, e1⟩ := slot b o e (I.ok.frf b hb) hb
      exact ⟨_, e1⟩
    · obtain ⟨o', e'⟩ := all b o e hb
      exact ⟨o', fl'.1 _ _ e'⟩
  · obtain ⟨m1, e1⟩ := I.base.tbls b ps e
    obtain ⟨m2, e2⟩ := un.tbls b _ e1
    exact ⟨m1 ++ m2, by rw [e2, Array.append_assoc]⟩
end
section
variable {P : Program} {w : World} {K : PySem.W.Frag} {mg : Str → Option Value} {base : Heap} {N : List Str} {qual : Str} {scope : Scope} {f : Addr} {cdv : Value} {A : Around} {outer : List Env} {s0 : Shared} {H0 : Hp} {E : XK}
/-- a callee's exception leaves this body too -/
theorem pass_body : Passes (CXE P w) (cxOf (CXE P w) P w K mg base N qual scope f cdv A outer s0 H0 E) E := by
  intro pins σ H s e s' I hq
  obtain ⟨ea, c, a0, B, H', rfl, os, bare, un, hok, fl, bk, q⟩ := hq
  refine wpAny_leaves_onW I.ok.frames rfl fl fun h' fl' up => ?_
  obtain ⟨h1, h2⟩ := un_flight I rfl rfl rfl un fl fl' up bk
  exact ⟨ea, c, a0, B, H', rfl, os.trans I.os, bare, h1, hok_stays hok bk.trk fl.1 fl'.1, fl', h2, q⟩
/-- an exception just made leaves this body -/
def RaisesTo (X : Cx) (W : St → XK) : Prop := ∀ (pins : List (Addr × Obj)) (σ : St) (H : Hp) (s : Shared) (h' : Heap) (e c : Addr) (vs : List Value), Inv X pins σ H s → Heap.MadeExcOf s.heap h' e (.ref c) vs → W σ (.ref c) none H → X.xe (.ref e) { s with heap := h' }
theorem raise_body : RaisesTo (cxOf (CXE P w) P w K mg base N qual scope f cdv A outer s0 H0 E) (fun _ => E) := by
  intro pins σ H s h' e c vs I hx q
  have inB : ∀ {b : Addr} {o : Obj}, s.heap.get? b = some o → b ∉ frs (cxOf (CXE P w) P w K mg base N qual scope f cdv A outer s0 H0 E).stack → (PySem.W.hideAll s.heap (frs (cxOf (CXE P w) P w K mg base N qual scope f cdv A outer s0 H0 E).stack)).get? b = some o := fun e hb => PySem.W.hideAll_get _ e hb
  have hfr : s.heap.FunFrames (PySem.W.hideAll s.heap (frs (cxOf (CXE P w) P w K mg base N qual scope f cdv A outer s0 H0 E).stack)) (cxOf (CXE P w) P w K mg base N qual scope f cdv A outer s0 H0 E).stack :=
    PySem.W.funFrames_hide I.stack fun env he a hf => List.mem_filterMap.mpr ⟨env, he, hf⟩
  have st : (PySem.W.hideAll s.heap (frs (cxOf (CXE P w) P w K mg base N qual scope f cdv A outer s0 H0 E).stack)).StaysIn s.heap := fun b o z => PySem.W.of_hideAll _ z
  have trk : ∀ b u, H b = some u → ∃ o, (PySem.W.hideAll s.heap (frs (cxOf (CXE P w) P w K mg base N qual scope f cdv A outer s0 H0 E).stack)).get? b = some o := fun b u z => by
    obtain ⟨o, eo⟩ := obj_some (I.hok b u z)
    exact ⟨o, inB eo fun hb => by rw [I.stkFree b hb] at z; cases z⟩
  have he : H e = none := by
    cases z : H e with
    | none => rfl
    | some u =>
      obtain ⟨o, eo⟩ := obj_some (I.hok e u z)
      rw [hx.new] at eo; cases eo
  have bk : Bk (frs (cxOf (CXE P w) P w K mg base N qual scope f cdv A outer s0 H0 E).stack) H H (PySem.W.hideAll s.heap (frs (cxOf (CXE P w) P w K mg base N qual scope f cdv A outer s0 H0 E).stack)) s.heap e :=
    ⟨trk, fun b o z _ hb => inB z hb, fun b o z hb => ⟨o, inB z hb⟩, he⟩
  refine wpAny_leaves_madeW I.ok.frames rfl st hfr hx fun h2 t fl' _ _ up => ?_
  -- the same step seen as a flight that begins in the own frame
  have un : Un (frs (cxOf (CXE P w) P w K mg base N qual scope f cdv A outer s0 H0 E).stack) [] H H s.heap s.heap := Un.refl
  have up' : s.heap.UpToSlots h2 := (Heap.UpToSlots.of_keeps hx.keeps).trans up
  have nL : ∀ {b : Addr} {o : Obj}, s0.heap.get? b = some o → b ∉ frs outer → b ∉ frs (cxOf (CXE P w) P w K mg base N qual scope f cdv A outer s0 H0 E).stack := fun {b o} z hb y => by
    rcases (own_frame I rfl rfl).mp y with y | y
    · exact Nat.ne_of_lt (Nat.lt_of_lt_of_le (Heap.lt_size z) I.ok.above) y
    · exact hb y
  have old : ∀ b o, s0.heap.get? b = some o → H0 b = none → b ∉ frs outer → (PySem.W.hideAll s.heap (frs (cxOf (CXE P w) P w K mg base N qual scope f cdv A outer s0 H0 E).stack)).get? b = some o := fun b o z n hb => inB (I.base.keep b o z n hb (by intro y; exact absurd (show b ∈ ([] : List Addr) from y) (by simp))) (nL z hb)
  have all : ∀ b o, s0.heap.get? b = some o → b ∉ frs outer → ∃ o', (PySem.W.hideAll s.heap (frs (cxOf (CXE P w) P w K mg base N qual scope f cdv A outer s0 H0 E).stack)).get? b = some o' := fun b o z hb => by
    obtain ⟨o1, e1⟩ := I.base.there b o z (by intro y; exact absurd (show b ∈ ([] : List Addr) from y) (by simp))
    exact ⟨o1, inB e1 (nL z hb)⟩
  have slot : ∀ b o, s0.heap.get? b = some o → H0 b = none → b ∈ frs outer → ∃ sl, h2.get? b = some { o with slots := sl } := fun b o z n hb => by
    obtain ⟨s1, e1⟩ := I.base.slot b o z n hb (by intro y; exact absurd (show b ∈ ([] : List Addr) from y) (by simp))
    obtain ⟨_, o3, e3, d3⟩ := hfr.mem (show b ∈ (cxOf (CXE P w) P w K mg base N qual scope f cdv A outer s0 H0 E).stack.filterMap (·.frame) from (own_frame I rfl rfl).mpr (.inr hb))
    rw [e1] at e3
    cases e3
    obtain ⟨sl, e4⟩ := up' b _ e1 d3
    exact ⟨sl, e4⟩
  refine ⟨e, c, .ref t, _, H, rfl, I.os, I.bare, ⟨fun b o z n hb _ => fl'.1 b o (old b o z n hb), fun b o z n hb _ => slot b o z n hb, fun b o z n _ => I.base.free b o z n (by intro y; exact absurd (show b ∈ ([] : List Addr) from y) (by simp)), fun b o z _ => ?_, I.base.tups, I.base.frzs, I.base.tbls⟩, hok_stays I.hok trk st fl'.1, fl', ⟨trk, old, all, he⟩, q⟩
  by_cases hb : b ∈ frs outer
  · obtain ⟨sl, e1⟩ := slot b o z (I.ok.frf b hb) hb
    exact ⟨_, e1⟩
  · obtain ⟨o', e'⟩ := all b o z hb
    exact ⟨o', fl'.1 _ _ e'⟩
end
/-- an exception class of the text, over ValueError -/
structure Xc (K : PySem.W.Frag) (mg : Str → Option Value) (x : Str) (C : Addr) (bm : List Value) (nid : String) : Prop where
  bound : mg x = some (.ref C)
  ex : PySem.W.excIn K C bm nid = true
theorem xc_own {K : PySem.W.Frag} {mg : Str → Option Value} {x : Str} {C : Addr} {bm : List Value} {nid : String} {h : Heap} (c : Xc K mg x C bm nid) (KX : K.In h) : OwnCls x C bm nid mg h := by
  obtain ⟨b, q⟩ := c
  constructor
  · exact b
  · revert q
    unfold PySem.W.excIn
    intro q
    split at q
    case h_2 => cases q
    case h_1 dd cd sl look =>
      split at q
      case h_2 => cases q
      case h_1 C1 rest z0 z1 z2 z3 nn z5 em es =>
        rw [Bool.and_eq_true, Bool.and_eq_true, Bool.and_eq_true, Bool.and_eq_true, Bool.and_eq_true] at q
        obtain ⟨⟨⟨⟨⟨q1, q2⟩, q3⟩, q4⟩, q5⟩, q6⟩ := q
        have r1 := beq_iff_eq.mp q1
        have r2 := beq_iff_eq.mp q2
        have r6 := beq_iff_eq.mp q6
        cases cd with
        | mk a1 a2 a3 a4 a5 a6 a7 a8 a9 a10 a11 =>
          have em' : a3 = Value.ref C1 :: rest := em
          have r3 : a11 = false := by simpa using q3
          have hsl : sl = #[z0, z1, z2, z3, some (Value.builtin nn), z5] := by
            cases sl with
            | mk l => exact congrArg Array.mk es
          subst r1 r2 em' r3 hsl
          exact ⟨rest, a4, a1, a5, a2, a6, a7, a8, a9, a10, dd, z0, z1, z2, z3, z5, _, KX _ _ look, Heap.Ns.of_isNs (PySem.W.isNs_of_in KX q5), PySem.W.nsMap_none_of_in KX q5 r6, PySem.W.tail_of_in KX q4⟩
end L3

/-! ### calls -/
namespace L3
open PySem PySem.Spec PyProof.Rows L2
abbrev WC := List D → Sto → DK → Prop
/-- a promise over plain data: the arguments, the store, what is wanted of the answer, what is wanted of an exception -/
abbrev Sd := List D → Sto → DK → (Addr → Sto → Prop) → Prop
def upC (K : PySem.W.Frag) (Z : Zx) (w : WC) : List V → Hp → VK → Prop := fun xs H Qv => ∃ r S ds Q, Rel K Z r S H ∧ Rps r H ds xs ∧ w ds S Q ∧ Ret K Z r H Q Qv
def upF (K : PySem.W.Frag) (sd : Sd) : Sp := fun vs H Qv E => ∃ ex : Addr → Sto → Prop, upC K (Zc ex E) (fun ds S Q => sd ds S Q ex) vs H Qv
def dCall (w : WC) (t : TDA) : TDE := fun dl S Q => t dl S fun ds S1 => w ds S1 Q
def dCallF (ex : Ev → Addr → Sto → Prop) (sd : Sd) (t : TDA) : TDE := fun dl S Q => t dl S fun ds S1 => sd ds S1 Q (ex dl)
/-- an exception of a callee reaches what this body wants of exceptions, at the names' values -/
def PassesS (X : Cx) (W : St → XK) : Prop := ∀ (pins : List (Addr × Obj)) (σ : St) (H : Hp) (s : Shared) (e : Value) (s' : Shared), Inv X pins σ H s → CXE X.prog X.w X.stack H s (W σ) e s' → X.xe e s'
section
variable {X : Cx} {k : Nat} {f : Addr} {fd : FuncData} {ps : List Str} {sp : Sp} {W : St → XK} {x : Str} {p pos : Pos} {e : Expr} {es : List Expr} {t : TA}
theorem run_at {pins : List (Addr × Obj)} {σ : St} {H : Hp} {s : Shared} {Q : VK} {us : List Value} {vs : List V} (F : FnOk X.prog X.w X.K X.mg X.base (CXE X.prog X.w) k f fd ps sp) (hr : Room k X.A) (hb : Binds X.K fd ps []) (hx : PassesS X W)
    (I : Inv X pins σ H s) (r : Vals vs us) (h : sp vs H Q (W σ)) : wpAny (model X.prog X.w) X.A (call (.ref f) us) (EP X pins σ Q) X.xe s := by
  have hl : us.length = ps.length := by rw [← r.length]; exact F.len _ _ _ _ h
  have hb' := hb s us I.kIn (by rw [List.append_nil]; exact hl)
  rw [List.append_nil] at hb'
  refine wpAny_call (codeAny_mono (F.run X.A X.stack s H ⟨us, []⟩ us vs Q (W σ) hr I.env0 hb' r h) fun z s' hq => ?_)
  cases z with
  | error ev => exact hx pins σ H s ev s' I hq
  | ok fl =>
    cases fl with
    | ret u => exact I.after hq
    | _ => exact False.elim hq
theorem pe_callS (F : FnOk X.prog X.w X.K X.mg X.base (CXE X.prog X.w) k f fd ps sp) (hr : Room k X.A) (hg : Gl X x) (hm : X.mg x = some (.ref f)) (hk : PySem.W.keepIn X.K (.ref f) = true) (hb : Binds X.K fd ps []) (hx : PassesS X W)
    (ha : PA X (e :: es) t) (hdb : (x == ("__debug__" : Str)) = false) (he : starEach (e :: es) X.env = (false, eval e X.env) :: starEach es X.env) (hpl : (backTo pos (starEach es X.env)).any (·.1) = false) :
    PE X (.Call (.Name x p) (e :: es) [] pos) (fun σ H Q => t σ H fun vs H1 => sp vs H1 Q (W σ)) := by
  intro pins s σ H Q I h
  refine wpAny_Call_Name_kw (ld_glob I hg hm ?_ hdb)
  exact PySem.W.callWith_K (h₀ := X.base) I.ok.mod.kin hk (thn (ha pos pins s σ H _ I h) fun us s1 ⟨vs, H1, I1, r, q⟩ => ⟨I1.kIn, run_at F hr hb hx I1 r q⟩) he hpl
end
section
variable {X : Cx} {Z : Zx} {x : Str} {p pos : Pos} {e : Expr} {es : List Expr} {t : TDA} {id T : String} {w : WC}
theorem up_args {σ : St} {H : Hp} {Qv : VK} (h : up X.K Z (dCall w t) σ H Qv) : upA X.K Z t σ H fun vs H1 => upC X.K Z w vs H1 Qv := by
  obtain ⟨r, dl, S, Q, rs, rel, h, ret⟩ := h
  exact ⟨r, dl, S, _, rs, rel, h, fun vs H1 r1 ds S1 e1 rel1 p1 h1 => ⟨r1, S1, ds, Q, rel1, p1, h1, ret.ext e1⟩⟩
theorem pd_callB (hc : CallR X (.builtin id) (upC X.K Z w)) (hg : Gl X x) (hm : X.mg x = none) (hv : bootBuiltins x = some (.builtin id)) (ha : PDA X Z (e :: es) t) (hn : x ≠ "__name__" := by decide) (hdb : (x == ("__debug__" : Str)) = false := by decide)
    (he : starEach (e :: es) X.env = (false, eval e X.env) :: starEach es X.env := by rfl) (hpl : (backTo pos (starEach es X.env)).any (·.1) = false := by rfl) : PD X Z (.Call (.Name x p) (e :: es) [] pos) (dCall w t) :=
  PEimp (pe_callB hc hg hm hv ha hn hdb he hpl) fun _ _ _ h => up_args h
theorem pd_callTy (hc : CallR X (.type T) (upC X.K Z w)) (hg : Gl X x) (hm : X.mg x = none) (hv : bootBuiltins x = some (.type T)) (ha : PDA X Z (e :: es) t) (hn : x ≠ "__name__" := by decide) (hdb : (x == ("__debug__" : Str)) = false := by decide)
    (he : starEach (e :: es) X.env = (false, eval e X.env) :: starEach es X.env := by rfl) (hpl : (backTo pos (starEach es X.env)).any (·.1) = false := by rfl) : PD X Z (.Call (.Name x p) (e :: es) [] pos) (dCall w t) :=
  PEimp (pe_callTy hc hg hm hv ha hn hdb he hpl) fun _ _ _ h => up_args h
/-- a callee's promise, with what this body wants of exceptions -/
theorem up_sd {sd : Sd} {r : List Addr} {S : Sto} {H : Hp} {dl : Ev} {σ : St} {ds : List D} {vs : List V} {Q : DK} {Qv : VK} (rs : Rs r H dl σ) (rel : Rel X.K Z r S H) (p : Rps r H ds vs) (h : sd ds S Q (Z.ex dl)) (ret : Ret X.K Z r H Q Qv) : upF X.K sd vs H Qv (Z.w σ) :=
  ⟨Z.ex dl, r, S, ds, Q, ⟨rel.b, fun _ _ c H' r' S' x _ rb q => rel.xw dl σ c H' r' S' x (rs.ext x) rb q⟩, p, h, fun v H' r' d S' x rel' pv q => ret v H' r' d S' x ⟨rel'.b, rel.xw.ext x⟩ pv q⟩
theorem pd_call {k : Nat} {f : Addr} {fd : FuncData} {ps : List Str} {sd : Sd} (F : FnOk X.prog X.w X.K X.mg X.base (CXE X.prog X.w) k f fd ps (upF X.K sd)) (hr : Room k X.A) (hg : Gl X x) (hm : X.mg x = some (.ref f)) (hk : PySem.W.keepIn X.K (.ref f) = true)
    {ex : Ev → Addr → Sto → Prop} {W : St → XK} (hb : Binds X.K fd ps []) (hx : PassesS X W) (ha : PDA X ⟨ex, W⟩ (e :: es) t) (hdb : (x == ("__debug__" : Str)) = false := by decide) (he : starEach (e :: es) X.env = (false, eval e X.env) :: starEach es X.env := by rfl)
    (hpl : (backTo pos (starEach es X.env)).any (·.1) = false := by rfl) : PD X ⟨ex, W⟩ (.Call (.Name x p) (e :: es) [] pos) (dCallF ex sd t) :=
  PEimp (pe_callS F hr hg hm hk hb hx ha hdb he hpl) fun σ H Qv ⟨r, dl, S, Q, rs, rel, h, ret⟩ => ⟨r, dl, S, _, rs, rel, h, fun vs H1 r1 ds S1 e1 rel1 p1 h1 => up_sd (Z := ⟨ex, W⟩) (rs.ext e1) rel1 p1 h1 (ret.ext e1)⟩

/-! ### built-ins -/
def wAbs : WC := fun ds S Q => match ds with
  | [.int i] => Q (.int (if i < 0 then -i else i)) S
  | _ => False
theorem dc_abs : CallR X (.builtin "abs") (upC X.K Z wAbs) := CallRimp call_abs fun xs H Qv ⟨r, S, ds, Q, rel, ps, q, ret⟩ => by
  unfold wAbs at q
  split at q
  · rename_i i
    obtain ⟨v, vs, rfl, p1, p2⟩ := ps.uncons
    have z := p2.unnil
    subst z
    cases p1
    exact ⟨i, rfl, ret _ _ _ _ _ Ext.refl rel (.int _) q⟩
  · exact q.elim
/-- the ints of a list -/
def intsOf : List D → Option (List Int)
  | [] => some []
  | .int i :: r => (intsOf r).map (i :: ·)
  | _ :: _ => none
def wBest (le : Int → Int → Prop) (two : Int → Int → Int) : WC := fun ds S Q => match ds with
  | [.int i, .int j] => Q (.int (two i j)) S
  | [.ref n] => match lAt S n with
    | some o => match intsOf (itemsOf o) with
      | some xs => xs ≠ [] ∧ ∀ m, m ∈ xs → (∀ y ∈ xs, le y m) → Q (.int m) S
      | none => False
    | none => False
  | _ => False
abbrev wMax : WC := wBest (fun y m => y ≤ m) fun i j => if j > i then j else i
abbrev wMin : WC := wBest (fun y m => m ≤ y) fun i j => if j < i then j else i
def wLen : WC := fun ds S Q => match ds with
  | [.tup xs] => Q (.int xs.length) S
  | [.ref n] => match lAt S n with
    | some o => Q (.int (itemsOf o).length) S
    | none => False
  | _ => False
theorem dc_len : CallR X (.builtin "len") (upC X.K Z wLen) := CallRimp call_len_seq fun xs H Qv ⟨r, S, ds, Q, rel, ps, q, ret⟩ => by
  unfold wLen at q
  split at q
  · rename_i ys
    obtain ⟨v, vs, rfl, p1, p2⟩ := ps.uncons
    have z := p2.unnil
    subst z
    obtain ⟨a, zs, rfl, h1, h2⟩ := p1.untup
    exact ⟨a, zs, rfl, .inr (SqT.of h1), by rw [← h2.1]; exact ret _ _ _ _ _ Ext.refl rel (.int _) q⟩
  · rename_i n
    obtain ⟨v, vs, rfl, p1, p2⟩ := ps.uncons
    have z := p2.unnil
    subst z
    split at q
    · rename_i o eo
      obtain ⟨eo, eL⟩ := lAt_some eo
      obtain ⟨a, ha, ob⟩ := rel.at eo
      cases p1 with
      | ref h1 =>
        rw [h1] at ha; cases ha
        obtain ⟨ys, sq, pr⟩ := ob.list eL
        exact ⟨_, ys, rfl, .inl sq, by rw [← pr.1]; exact ret _ _ _ _ _ Ext.refl rel (.int _) q⟩
    · exact q.elim
  · exact q.elim

/-! ### isinstance of plain data, a built-in type -/
def tyD : D → String
  | .non => "NoneType" | .bl _ => "bool" | .int _ => "int" | .str _ => "str" | .tup _ => "tuple" | .ref _ => "list" | .exc _ => "?"
def isTy (t T : String) : Bool := t == T || (t == "bool" && T == "int")
def dInst (T : String) (te : TDE) : TDE := fun dl S Q => te dl S fun d S1 => match d with
  | .ref _ => False
  | .exc _ => False
  | .non => Q (.bl (isTy "NoneType" T)) S1
  | .bl _ => Q (.bl (isTy "bool" T)) S1
  | .int _ => Q (.bl (isTy "int" T)) S1
  | .str _ => Q (.bl (isTy "str" T)) S1
  | .tup _ => Q (.bl (isTy "tuple" T)) S1
/-- what the fragment says of the types -/
def Kit (K : PySem.W.Frag) (T : String) : Prop := ∀ t ∈ ["NoneType", "bool", "int", "str", "tuple"], PySem.W.kitOne K (.type t) (.type T) = some (isTy t T)
def rInst (K : PySem.W.Frag) : List V → Hp → VK → Prop := fun xs H Qv => ∃ x T t b, xs = [x, .ty T] ∧ TyOf K H x t ∧ PySem.W.kitOne K t (.type T) = some b ∧ Qv (.bl b) H
theorem call_inst : CallR X (.builtin "isinstance") (rInst X.K) := by
  intro pins s σ H xs us Q I r h
  obtain ⟨x, T, t, b, rfl, ty, e, q⟩ := h
  obtain ⟨u, w', rfl, r1, r2⟩ := vals2 r
  cases r2
  exact isinst_ok I r1 ty e fun tk => ⟨.bl b, H, I.tok tk, rfl, q⟩
theorem pd_inst {T : String} {te : TDE} {y : Str} {p2 : Pos} (KT : Kit X.K T) (hg : Gl X "isinstance") (hm : X.mg "isinstance" = none) (hg2 : Gl X y) (hm2 : X.mg y = none) (hv2 : bootBuiltins y = some (.type T)) (ha : PD X Z e te)
    (hv : bootBuiltins "isinstance" = some (.builtin "isinstance") := by exact PyProof.Rows.Boot.«isinstance»)
    (hn2 : y ≠ "__name__" := by decide) (hd2 : (y == ("__debug__" : Str)) = false := by decide) (he2 : starEach [e, .Name y p2] X.env = (false, eval e X.env) :: starEach [.Name y p2] X.env := by rfl)
    (he3 : starEach [.Name y p2] X.env = (false, eval (.Name y p2) X.env) :: starEach [] X.env := by rfl) (hpl : (backTo pos (starEach [.Name y p2] X.env)).any (·.1) = false := by rfl) :
    PD X Z (.Call (.Name "isinstance" p) [e, .Name y p2] [] pos) (dInst T te) :=
  PEimp (pe_callB call_inst hg hm hv (pa_cons ha (pa_cons (pe_bltn (v := .ty T) hg2 hm2 hv2 rfl hn2 hd2) pa_nil he3) he2) (by decide) (by decide) he2 hpl) fun σ H Qv ⟨r, dl, S, Q, rs, rel, h, ret⟩ =>
    ⟨r, dl, S, _, rs, rel, h, fun v H1 r1 d S1 e1 rel1 p1 h1 => by
      cases p1 with
      | non => exact ⟨_, T, _, _, rfl, .non, KT _ (by simp), ret _ _ _ _ _ e1 rel1 (.bl _) h1⟩
      | bl b => exact ⟨_, T, _, _, rfl, .bl b, KT _ (by simp), ret _ _ _ _ _ e1 rel1 (.bl _) h1⟩
      | int b => exact ⟨_, T, _, _, rfl, .int b, KT _ (by simp), ret _ _ _ _ _ e1 rel1 (.bl _) h1⟩
      | str b => exact ⟨_, T, _, _, rfl, .str b, KT _ (by simp), ret _ _ _ _ _ e1 rel1 (.bl _) h1⟩
      | tup e2 _ _ => exact ⟨_, T, _, _, rfl, .tup e2, KT _ (by simp), ret _ _ _ _ _ e1 rel1 (.bl _) h1⟩
      | ref _ => exact (show False from h1).elim
      | exc _ => exact (show False from h1).elim⟩
end
end L3

/-! ### statements -/
namespace L3
open PySem PySem.Spec PyProof.Rows L2
section
variable {X : Cx} {Z : Zx} {st : Stmt} {rest : List Stmt} {t u : TDS} {e : Expr} {te : TDE} {pos : Pos}
def dNext : TDS := fun E dl S => E.nx dl S
def dSeq (t u : TDS) : TDS := fun E dl S => t { nx := fun dl' S' => u E dl' S', rt := E.rt, bk := E.bk, ct := E.ct } dl S
theorem pds_nil : PDSs X Z [] dNext := PSsimp pss_nil fun F σ H ⟨r, dl, S, E, rs, rel, h, ret⟩ => ret.nx σ H r dl S Ext.refl rs rel h
theorem pds_cons (h1 : PDS X Z st t) (h2 : PDSs X Z rest u) : PDSs X Z (st :: rest) (dSeq t u) :=
  PSsimp (pss_cons h1 h2) fun F σ H ⟨r, dl, S, E, rs, rel, h, ret⟩ => ⟨r, dl, S, _, rs, rel, h, fun σ' H' r' dl' S' x rs' rel' q => ⟨r', dl', S', E, rs', rel', q, ret.ext x⟩, ret.bk, ret.ct, ret.rt⟩
theorem pds_one (h1 : PDS X Z st t) : PDSs X Z [st] t := pss_one h1
def dBreak : TDS := fun E dl S => E.bk dl S
def dCont : TDS := fun E dl S => E.ct dl S
def dDrop (te : TDE) : TDS := fun E dl S => te dl S fun _ S1 => E.nx dl S1
theorem pds_expr (he : PD X Z e te) (hs : swapsWith e none pos.line X.env = pure false := by rfl) : PDS X Z (.Expr e pos) (dDrop te) :=
  PSimp (ps_expr he hs) fun F σ H ⟨r, dl, S, E, rs, rel, h, ret⟩ => ⟨r, dl, S, _, rs, rel, h, fun v H1 r1 d S1 x rel1 p q => ret.nx σ H1 r1 dl S1 x (rs.ext x) rel1 q⟩
def dRet (te : TDE) : TDS := fun E dl S => te dl S E.rt
theorem pds_ret (he : PD X Z e te) : PDS X Z (.Return (some e) pos) (dRet te) :=
  PSimp (ps_ret he) fun F σ H ⟨r, dl, S, E, rs, rel, h, ret⟩ => ⟨r, dl, S, _, rs, rel, h, ret.rt⟩
def dRetN : TDS := fun E _ S => E.rt .non S
def dIf (c : TDT) (t u : TDS) : TDS := fun E dl S => c dl S fun k S1 => if k = true then t E dl S1 else u E dl S1
theorem pds_if {c : Expr} {a b : List Stmt} {tc : TDT} (hc : PDT X Z c tc) (ha : PDSs X Z a t) (hb : PDSs X Z b u) : PDS X Z (.If c a b pos) (dIf tc t u) :=
  PSimp (ps_if hc ha hb) fun F σ H ⟨r, dl, S, E, rs, rel, h, ret⟩ => ⟨r, dl, S, _, rs, rel, h, fun k H1 r1 S1 x rel1 q => by
    cases k with
    | true => exact iteT ⟨r1, dl, S1, E, rs.ext x, rel1, (by simpa using q), ret.ext x⟩
    | false => exact iteF ⟨r1, dl, S1, E, rs.ext x, rel1, (by simpa using q), ret.ext x⟩⟩
def dSet (i : Nat) (te : TDE) : TDS := fun E dl S => te dl S fun d S1 => E.nx (dl.set i (some d)) S1
theorem pds_set {i : Nat} {x : Str} {pos' : Pos} (hN : X.N.Nodup) (hi : X.N[i]? = some x) (hx : Loc X.env.scope x) (he : PD X Z e te) (hs : swapsWith e (some (.Name x pos')) pos.line X.env = pure false := by rfl)
    (hf : X.fn x = true ∨ X.env.scope.names.lookup x = some .local := by first | exact .inl rfl | exact .inr rfl | assumption) : PDS X Z (.Assign [.Name x pos'] e pos) (dSet i te) :=
  PSimp (ps_set hN hi hx he hs hf) fun F σ H ⟨r, dl, S, E, rs, rel, h, ret⟩ => ⟨r, dl, S, _, rs, rel, h, fun v H1 r1 d S1 x rel1 p q => ret.nx _ H1 r1 _ S1 x ((rs.ext x).set i p) rel1 q⟩

/-! ### while -/
def dWhile (c : TDT) (tb : TDS) : TDS := fun E dl S => ∃ W : Nat → Ev → Sto → Prop, (∃ m, W m dl S) ∧ ∀ m dl S, W m dl S →
  c dl S fun k S1 => if k = true then tb { nx := fun dl' S' => ∃ m', m' < m ∧ W m' dl' S', rt := E.rt, bk := E.nx, ct := fun dl' S' => ∃ m', m' < m ∧ W m' dl' S' } dl S1 else E.nx dl S1
theorem pds_while {c : Expr} {body : List Stmt} {tc : TDT} {tb : TDS} (hp : PassesOwn (model X.prog X.w) X.A X.env X.xe) (hc : PDT X Z c tc) (hb : PDSs X Z body tb) : PDS X Z (.While c body [] pos) (dWhile tc tb) :=
  PSimp (ps_while hp hc hb) fun F σ H ⟨r, dl, S, E, rs, rel, ⟨W, ⟨m0, w0⟩, turn⟩, ret⟩ => by
    refine ⟨fun m σ' H' => ∃ r' dl' S', Ext r r' H H' ∧ Rs r' H' dl' σ' ∧ Rel X.K Z r' S' H' ∧ W m dl' S', ⟨m0, r, dl, S, Ext.refl, rs, rel, w0⟩, ?_⟩
    rintro m σ1 H1 ⟨r1, dl1, S1, x1, rs1, rel1, w1⟩
    refine ⟨r1, dl1, S1, _, rs1, rel1, turn m dl1 S1 w1, fun k H2 r2 S2 x2 rel2 q2 => ?_⟩
    cases k with
    | true =>
      refine iteT ⟨fun σ' H' => ∃ m', m' < m ∧ ∃ r' dl' S', Ext r r' H H' ∧ Rs r' H' dl' σ' ∧ Rel X.K Z r' S' H' ∧ W m' dl' S', fun _ _ z => z, r2, dl1, S2, _, rs1.ext x2, rel2, (by simpa using q2), ?_⟩
      have go : ∀ σ' H' r' dl' S', Ext r2 r' H2 H' → Rs r' H' dl' σ' → Rel X.K Z r' S' H' → (∃ m', m' < m ∧ W m' dl' S') → ∃ m', m' < m ∧ ∃ r' dl' S', Ext r r' H H' ∧ Rs r' H' dl' σ' ∧ Rel X.K Z r' S' H' ∧ W m' dl' S' :=
        fun σ' H' r' dl' S' x rs' rel' ⟨m', hm, w'⟩ => ⟨m', hm, r', dl', S', x1.trans (x2.trans x), rs', rel', w'⟩
      exact ⟨go, fun σ' H' r' dl' S' x rs' rel' q => ret.nx σ' H' r' dl' S' (x1.trans (x2.trans x)) rs' rel' q, go, ret.rt.ext (x1.trans x2)⟩
    | false => exact iteF (ret.nx σ1 H2 r2 dl1 S2 (x1.trans x2) (rs1.ext x2) rel2 (by simpa using q2))

/-! ### for -/
/-- over a list of the store; x comes into slot i -/
def dFor (i : Nat) (tl : TDE) (tb : TDS) : TDS := fun E dl S => tl dl S fun d S1 => match d with
  | .ref n => (lAt S1 n).isSome = true ∧ ∃ W : Nat → Nat → Ev → Sto → Prop, (∃ m, W 0 m dl S1) ∧ ∀ k m dl S, W k m dl S → match lAt S n with
    | some o => match (itemsOf o)[k]? with
      | some x => tb { nx := fun dl' S' => ∃ m', m' < m ∧ W (k + 1) m' dl' S', rt := E.rt, bk := E.nx, ct := fun dl' S' => ∃ m', m' < m ∧ W (k + 1) m' dl' S' } (dl.set i (some x)) S
      | none => E.nx dl S
    | none => False
  | _ => False
/-- over range(n) -/
def dForR (i : Nat) (ta : TDA) (tb : TDS) : TDS := fun E dl S => ta dl S fun ds S1 => match ds with
  | [.int j] => (-(2 ^ 62) ≤ j ∧ j < 2 ^ 62) ∧ ∃ W : Nat → Ev → Sto → Prop, W 0 dl S1 ∧ ∀ k dl S, W k dl S →
      if k < j.toNat then tb { nx := fun dl' S' => W (k + 1) dl' S', rt := E.rt, bk := E.nx, ct := fun dl' S' => W (k + 1) dl' S' } (dl.set i (some (.int k))) S else E.nx dl S
  | _ => False
end

/-! ### a def of the text -/
/-- the names' values at the entry -/
def startD (N : List Str) (ds : List D) : Ev := ds.map some ++ List.replicate (N.length - ds.length) none
theorem rs_start {r : List Addr} {H : Hp} {N : List Str} {ds : List D} {vs : List V} (h : Rps r H ds vs) : Rs r H (startD N ds) (L2.start N vs) := by
  refine ⟨by simp [startD, L2.start, h.1], fun i d e => ?_⟩
  unfold startD at e
  by_cases hi : i < ds.length
  · rw [List.getElem?_append_left (by simpa using hi), List.getElem?_map] at e
    cases q : ds[i]? with
    | none =>
   rw [q] at e
   cases e
    | some z =>
      rw [q] at e
      cases e
      obtain ⟨v, hv, pv⟩ := h.get q
      refine ⟨v, ?_, pv⟩
      unfold L2.start
      rw [List.getElem?_append_left (by simpa [h.1] using hi), List.getElem?_map, hv]
      rfl
  · rw [List.getElem?_append_right (by simpa using hi), List.getElem?_replicate] at e
    split at e <;> cases e
section
variable {P : Program} {w : World} {K : PySem.W.Frag} {mg : Str → Option Value} {base : Heap}
/-- nothing is wanted of an exception: none comes -/
abbrev Z0 : Zx := Zc (fun _ _ => False) (fun _ _ _ => False)
theorem pass_nox {X : Cx} : PassesS X Z0.w := fun _ _ _ _ _ _ _ h => by
  obtain ⟨_, _, _, _, _, _, _, _, _, _, _, _, q⟩ := h
  exact q.elim
/-- a def from which no exception leaves -/
theorem fun_ok {x qual : Str} {st : Stmt} {f : Addr} {fd : FuncData} {N ps : List Str} {k : Nat} {sd : Sd} (F : Fun K x qual st f fd) (Sc : FnScope N ps (defScope st)) (len : ∀ ds S Q ex, sd ds S Q ex → ds.length = ps.length)
    (hbody : ∀ (cdv : Value) (A : Around) (outer : List Env) (s : Shared) (H : Hp) (E : XK), Room k (A.deeper (envOfC qual (defScope st) s.heap.objs.size f cdv)) →
      ∃ t, PDSs (cxOf (CXE P w) P w K mg base N qual (defScope st) f cdv A outer s H E).nox Z0 (defBody st) t ∧ ∀ ds S Q ex, sd ds S Q ex → t { nx := fun _ S' => Q .non S', rt := Q } (startD N ds) S) : FnOk P w K mg base (CXE P w) (k + 1) f fd ps (upF K sd) := by
  obtain ⟨oc, od, kV, doc, pm, an, cdv, ct, osl, rfl, lk, hcd⟩ := F.ex
  refine fn_of lk hcd Sc (fun vs H Q E h => ?_) fun A outer s H vs Q E hr h => ?_
  · obtain ⟨ex, r, S, ds, Q', rel, p, q, ret⟩ := h
    rw [← p.1]
    exact len ds S Q' ex q
  · obtain ⟨ex, r, S, ds, Q', rel, p, q, ret⟩ := h
    obtain ⟨t, ht, hq⟩ := hbody cdv A outer s H E hr
    have back : ∀ {H' : Hp} {r' : List Addr} {S' : Sto}, Ext r r' H H' → Rel K Z0 r' S' H' → Rel K (Zc ex E) r' S' H' := fun x rel' => ⟨rel'.b, rel.xw.ext x⟩
    refine ⟨upS K Z0 t, ht.nox, r, startD N ds, S, _, rs_start p, ⟨rel.b, fun _ _ _ _ _ _ _ _ _ z => z.elim⟩, hq ds S Q' ex q, ?_, ?_, ?_, ?_⟩
    · intro σ' H' r' dl' S' x _ rel' z
      exact ret .non H' r' .non S' x (back x rel') .non z
    · intro σ' H' r' dl' S' x _ rel' z
      exact z
    · intro σ' H' r' dl' S' x _ rel' z
      exact z
    · intro v H' r' d S' x rel' p' z
      exact ret v H' r' d S' x (back x rel') p' z
/-- a def that may raise -/
theorem fun_okX {x qual : Str} {st : Stmt} {f : Addr} {fd : FuncData} {N ps : List Str} {k : Nat} {sd : Sd} (F : Fun K x qual st f fd) (Sc : FnScope N ps (defScope st)) (len : ∀ ds S Q ex, sd ds S Q ex → ds.length = ps.length)
    (hbody : ∀ (cdv : Value) (A : Around) (outer : List Env) (s : Shared) (H : Hp) (E : XK) (ex : Addr → Sto → Prop), Room k (A.deeper (envOfC qual (defScope st) s.heap.objs.size f cdv)) →
      PassesS (cxOf (CXE P w) P w K mg base N qual (defScope st) f cdv A outer s H E) (fun _ => E) → RaisesTo (cxOf (CXE P w) P w K mg base N qual (defScope st) f cdv A outer s H E) (fun _ => E) →
      ∃ t, PDSs (cxOf (CXE P w) P w K mg base N qual (defScope st) f cdv A outer s H E) (Zc ex E) (defBody st) t ∧ ∀ ds S Q, sd ds S Q ex → t { nx := fun _ S' => Q .non S', rt := Q } (startD N ds) S) : FnOk P w K mg base (CXE P w) (k + 1) f fd ps (upF K sd) := by
  obtain ⟨oc, od, kV, doc, pm, an, cdv, ct, osl, rfl, lk, hcd⟩ := F.ex
  refine fn_of lk hcd Sc (fun vs H Q E h => ?_) fun A outer s H vs Q E hr h => ?_
  · obtain ⟨ex, r, S, ds, Q', rel, p, q, ret⟩ := h
    rw [← p.1]
    exact len ds S Q' ex q
  · obtain ⟨ex, r, S, ds, Q', rel, p, q, ret⟩ := h
    obtain ⟨t, ht, hq⟩ := hbody cdv A outer s H E ex hr pass_body raise_body
    refine ⟨upS K (Zc ex E) t, ht, r, startD N ds, S, _, rs_start p, rel, hq ds S Q' q, ?_, ?_, ?_, ret⟩
    · intro σ' H' r' dl' S' x _ rel' z
      exact ret .non H' r' .non S' x rel' .non z
    · intro σ' H' r' dl' S' x _ rel' z
      exact z
    · intro σ' H' r' dl' S' x _ rel' z
      exact z
end
end L3

/-! ### sizes of ints -/
namespace L3
open PySem
/-- fewer than n bits -/
def Sz (n : Nat) (i : Int) : Prop := i.natAbs < 2 ^ n
theorem Sz.mono {m n : Nat} {i : Int} (h : Sz m i) (hn : m ≤ n) : Sz n i := Nat.lt_of_lt_of_le h (Nat.pow_le_pow_right (by decide) hn)
theorem Sz.bits {n : Nat} {i : Int} (h : Sz n i) : Builtin.Int.intBits i ≤ n := by
  unfold Builtin.Int.intBits
  split
  · exact Nat.zero_le _
  · rename_i hz
    have hp : i.natAbs ≠ 0 := by
      intro z
      have z2 : i = 0 := by omega
      simp [z2] at hz
    have := (Nat.log2_lt hp).mpr h
    omega
theorem mul_ok {m n : Nat} {i j : Int} (hi : Sz m i) (hj : Sz n j) (hm : m ≤ 1048576 := by decide) (hn : n ≤ 1048576 := by decide) : IntMulOk i j :=
  IntMulOk.of_bits (Nat.le_trans hi.bits (by have e : (2 : Nat) ^ 20 = 1048576 := by decide
                                             omega)) (Nat.le_trans hj.bits (by have e : (2 : Nat) ^ 20 = 1048576 := by decide
                                                                               omega))
theorem Sz.of {n : Nat} {i : Int} (m : Nat) (h : i.natAbs ≤ m) (hm : m < 2 ^ n := by decide) : Sz n i := Nat.lt_of_le_of_lt h hm
theorem Sz.add {m n : Nat} {i j : Int} (hi : Sz m i) (hj : Sz n j) : Sz (max m n + 1) (i + j) := by
  have h1 : Sz (max m n) i := hi.mono (Nat.le_max_left _ _)
  have h2 : Sz (max m n) j := hj.mono (Nat.le_max_right _ _)
  unfold Sz at *
  have e : (2 : Nat) ^ (max m n + 1) = 2 ^ max m n + 2 ^ max m n := by rw [Nat.pow_succ]; omega
  rw [e]
  have := Int.natAbs_add_le i j
  omega
theorem Sz.neg {m : Nat} {i : Int} (hi : Sz m i) : Sz m (-i) := by
  unfold Sz at *
  rw [Int.natAbs_neg]; exact hi
theorem Sz.sub {m n : Nat} {i j : Int} (hi : Sz m i) (hj : Sz n j) : Sz (max m n + 1) (i - j) := by
  rw [Int.sub_eq_add_neg]; exact hi.add hj.neg
/-- what // asks of its divisor -/
theorem Sz.log {n : Nat} {i : Int} (h : Sz n i) (hi : i ≠ 0) (hn : n ≤ 9000 := by decide) : i.natAbs.log2 < 9000 := by
  have := (Nat.log2_lt (by omega : i.natAbs ≠ 0)).mpr h
  omega
theorem Sz.fd {n : Nat} {i : Int} (h : Sz n i) (hi : 0 < i) (hn : n ≤ 9000 := by decide) : 0 < i ∧ i.natAbs.log2 < 9000 := ⟨hi, h.log (by omega) hn⟩
theorem mod_range {a b : Int} (hb : 0 < b) : 0 ≤ a % b ∧ a % b < b := ⟨Int.emod_nonneg _ (by omega), Int.emod_lt_of_pos _ hb⟩
theorem p40 : ((10 : Int) ^ (40 : Int).toNat) = 10 ^ 40 := rfl
theorem p41 : ((10 : Int) ^ (41 : Int).toNat) = 10 ^ 41 := rfl
theorem p20 : ((10 : Int) ^ (20 : Int).toNat) = 10 ^ 20 := rfl
example (x : Int) : -(10 ^ 40) ≤ x % (2 * 10 ^ 40 + 1) - 10 ^ 40 := by omega
example (x : Int) : x % (2 * 10 ^ 40 + 1) - 10 ^ 40 ≤ 10 ^ 40 := by omega
example (x : Int) (h : -(10 ^ 40) ≤ x) (h2 : x ≤ 2 * 10 ^ 41) : Sz 140 x := Sz.of (2 * 10 ^ 41) (by omega)
end L3

/-! ### gcd, lowest terms -/
namespace L3
theorem gcd_step (a b : Int) : Int.gcd b (a % b) = Int.gcd a b := by
  rw [Int.emod_def, show a - b * (a / b) = a - (a / b) * b by rw [Int.mul_comm], Int.gcd_sub_mul_right_right, Int.gcd_comm]
def absI (i : Int) : Int := if i < 0 then -i else i
theorem absI_nn (i : Int) : 0 ≤ absI i := by unfold absI; split <;> omega
theorem gcd_absI (a b : Int) : Int.gcd (absI a) (absI b) = Int.gcd a b := by
  have h : ∀ i : Int, (absI i).natAbs = i.natAbs := fun i => by unfold absI; split <;> omega
  unfold Int.gcd
  rw [h, h]
/-- what a fraction is: by its divisor with the bottom's sign -/
theorem frac_facts {T B d : Int} (hB : B ≠ 0) (hd : d = (if B < 0 then -((Int.gcd T B : Nat) : Int) else ((Int.gcd T B : Nat) : Int))) :
    d ≠ 0 ∧ T.fdiv d * d = T ∧ B.fdiv d * d = B ∧ 1 ≤ B.fdiv d ∧ Int.gcd (T.fdiv d) (B.fdiv d) = 1 ∧ T.fdiv d * B = T * B.fdiv d := by
  have g0 : 0 < Int.gcd T B := Nat.pos_of_ne_zero fun z => hB (Int.gcd_eq_zero_iff.mp z).2
  have dT : ((Int.gcd T B : Nat) : Int) ∣ T := Int.gcd_dvd_left T B
  have dB : ((Int.gcd T B : Nat) : Int) ∣ B := Int.gcd_dvd_right T B
  have hne : d ≠ 0 := by
    rw [hd]; split <;> omega
  have eT : d ∣ T := by rw [hd]; split <;> first | exact Int.neg_dvd.mpr dT | exact dT
  have eB : d ∣ B := by rw [hd]; split <;> first | exact Int.neg_dvd.mpr dB | exact dB
  have fT : T.fdiv d = T / d := Int.fdiv_eq_ediv_of_dvd eT
  have fB : B.fdiv d = B / d := Int.fdiv_eq_ediv_of_dvd eB
  have mT : T.fdiv d * d = T := by rw [fT]; exact Int.ediv_mul_cancel eT
  have mB : B.fdiv d * d = B := by rw [fB]; exact Int.ediv_mul_cancel eB
  have gg : Int.gcd (T.fdiv d) (B.fdiv d) = 1 := by
    have z := Int.gcd_ediv_gcd_ediv_gcd g0
    rw [fT, fB, hd]
    split
    · rw [Int.ediv_neg, Int.ediv_neg, Int.neg_gcd, Int.gcd_neg]; exact z
    · exact z
  have pos : 1 ≤ B.fdiv d := by
    by_cases hb : B < 0
    · have dn : d < 0 := by rw [hd, if_pos hb]; omega
      by_cases q : B.fdiv d ≤ 0
      · have := Int.mul_nonneg_of_nonpos_of_nonpos q (Int.le_of_lt dn)
        omega
      · omega
    · have dp : 0 < d := by rw [hd, if_neg hb]; omega
      by_cases q : B.fdiv d ≤ 0
      · have := Int.mul_nonneg (show 0 ≤ -(B.fdiv d) by omega) (Int.le_of_lt dp)
        rw [Int.neg_mul] at this
        omega
      · omega
  refine ⟨hne, mT, mB, pos, gg, ?_⟩
  calc T.fdiv d * B = T.fdiv d * (B.fdiv d * d) := by rw [mB]
    _ = T.fdiv d * d * B.fdiv d := by grind
    _ = T * B.fdiv d := by rw [mT]
theorem frac_size {T d : Int} (hne : d ≠ 0) (mT : T.fdiv d * d = T) : (T.fdiv d).natAbs ≤ T.natAbs := by
  have h : (T.fdiv d).natAbs * d.natAbs = T.natAbs := by rw [← Int.natAbs_mul, mT]
  have hd : 1 ≤ d.natAbs := by omega
  calc (T.fdiv d).natAbs = (T.fdiv d).natAbs * 1 := by omega
    _ ≤ (T.fdiv d).natAbs * d.natAbs := Nat.mul_le_mul_left _ hd
    _ = T.natAbs := h
/-! ### products of spans -/
end L3

/-! ### written numbers; defs as they stand; the law's start -/
namespace L3
open PySem PySem.Spec PyProof.Rows L2
section
variable {X : Cx} {Z : Zx}
def wIf (C : Int → Int → Bool) (g : Int → Int → D) : W2 := fun x y S Q => match x, y with
  | .int i, .int j => if C i j = true then Q (g i j) S else False
  | _, _ => False
theorem opIf {f : Value → Value → Sem Value} {C : Int → Int → Prop} {C' : Int → Int → Bool} {g : Int → Int → D} (h : OpR X f (upO X.K Z (wI C g))) (hc : ∀ i j, C' i j = true → C i j) : OpR X f (upO X.K Z (wIf C' g)) :=
  OpRimp h fun x y H Qv ⟨r, S, dx, dy, Q, rel, px, py, q, ret⟩ => ⟨r, S, dx, dy, Q, rel, px, py, by
    unfold wIf at q
    split at q
    · obtain ⟨h1, h2⟩ := ite_of q
      exact ⟨hc _ _ h1, h2⟩
    · exact q.elim, ret⟩
/-- by a written divisor -/
def litB (_ j : Int) : Bool := decide (0 < j) && decide (j < 1073741824)
abbrev wFdivL : W2 := wIf litB fun i j => .int (i / j)
abbrev wModL : W2 := wIf litB fun i j => .int (i % j)
def powB (i j : Int) : Bool := decide (0 ≤ j) && decide (j ≤ 1000) && decide (-1000 < i) && decide (i < 1000)
abbrev wPowL : W2 := wIf powB fun i j => .int (i ^ j.toNat)
theorem litB_pos {i j : Int} (h : litB i j = true) : 0 < j ∧ j < 1073741824 := by
  unfold litB at h
  simpa using h
theorem do_fdivL : OpR X (binaryOp .FloorDiv) (upO X.K Z wFdivL) := opIf do_fdiv fun i j h => by
  obtain ⟨h1, h2⟩ := litB_pos h
  refine ⟨h1, ?_⟩
  have : j.natAbs.log2 < 30 := (Nat.log2_lt (by omega)).mpr (by omega)
  omega
theorem do_modL : OpR X (binaryOp .Mod) (upO X.K Z wModL) := opIf do_mod fun i j h => (litB_pos h).1
theorem do_powL : OpR X (binaryOp .Pow) (upO X.K Z wPowL) := opIf do_pow fun i j h => by
  unfold powB at h
  simp at h
  refine ⟨h.1.1.1, by have := h.1.1.2; omega, ?_⟩
  have h3 := h.1.2
  have h4 := h.2
  have big : (18446744073709551616 : Nat) = 2 ^ 64 := by decide
  omega
/-- a def as the top has made it -/
structure Df (K : PySem.W.Frag) (mg : Str → Option Value) (x : Str) (st : Stmt) (ps : List Str) where
  f : Addr
  fd : FuncData
  F : Fun K x x st f fd
  m : mg x = some (.ref f)
  b : Binds K fd ps []
/-- .. with its promise -/
structure Fk (P : Program) (w : World) (K : PySem.W.Frag) (mg : Str → Option Value) (base : Heap) (k : Nat) (x : Str) (ps : List Str) (sd : Sd) where
  f : Addr
  fd : FuncData
  ok : FnOk P w K mg base (CXE P w) k f fd ps (upF K sd)
  m : mg x = some (.ref f)
  kp : PySem.W.keepIn K (.ref f) = true
  b : Binds K fd ps []
def Df.mk' {P : Program} {w : World} {K : PySem.W.Frag} {mg : Str → Option Value} {base : Heap} {k : Nat} {x : Str} {st : Stmt} {ps : List Str} {sd : Sd} (d : Df K mg x st ps) (h : FnOk P w K mg base (CXE P w) k d.f d.fd ps (upF K sd)) : Fk P w K mg base k x ps sd :=
  ⟨d.f, d.fd, h, d.m, d.F.kp, d.b⟩
theorem pd_callF {x : Str} {p pos : Pos} {e : Expr} {es : List Expr} {t : TDA} {k : Nat} {ps : List Str} {sd : Sd} {ex : Ev → Addr → Sto → Prop} {W : St → XK} (G : Fk X.prog X.w X.K X.mg X.base k x ps sd) (hr : Room k X.A) (hx : PassesS X W) (hg : Gl X x) (ha : PDA X ⟨ex, W⟩ (e :: es) t)
    (hdb : (x == ("__debug__" : Str)) = false := by decide) (he : starEach (e :: es) X.env = (false, eval e X.env) :: starEach es X.env := by rfl) (hpl : (backTo pos (starEach es X.env)).any (·.1) = false := by rfl) :
    PD X ⟨ex, W⟩ (.Call (.Name x p) (e :: es) [] pos) (dCallF ex sd t) := pd_call G.ok hr hg G.m G.kp G.b hx ha hdb he hpl
/-- xs.append(e) -/
def wApp : W2 := fun x y S Q => match x with
  | .ref n => match S[n]? with
    | some (.lst xs) => if xs.length < 1000 then Q .non (S.set n (.lst (xs ++ [y]))) else False
    | _ => False
  | _ => False
end
/-- the law's promise: for a list of at most 63 ints, True -/
def spLaw : Sd := fun ds S Q _ => ∃ ns : List Int, ds = [.ref 0] ∧ S = [.frz (ns.map D.int)] ∧ ns.length ≤ 63 ∧ ∀ S', Q (.bl true) S'
theorem spLaw_len : ∀ ds S Q ex, spLaw ds S Q ex → ds.length = 1 := fun ds S Q ex h => by
  obtain ⟨ns, rfl, _⟩ := h
  rfl
theorem only_frz {K : PySem.W.Frag} {H : Hp} {a : Addr} {xs : List V} (hO : Only H) (h : SqL K H a xs) : SqF K H a xs := by
  rcases h with (h | ⟨o, h⟩) | h
  · rcases hO a with z | ⟨o, ys, z⟩
    · rw [h] at z; cases z
    · rw [h] at z; cases z
  · exact .inl ⟨o, h⟩
  · exact .inr h
theorem ints_rps {r : List Addr} {H : Hp} (ns : List Int) : Rps r H (ns.map D.int) (ns.map V.int) := by
  refine ⟨by simp, fun i d v h1 h2 => ?_⟩
  rw [List.getElem?_map] at h1 h2
  cases q : ns[i]? with
  | none => rw [q] at h1; cases h1
  | some z =>
    rw [q] at h1 h2
    cases h1
    cases h2
    exact .int z
theorem law_start {K : PySem.W.Frag} {H : Hp} {a : Addr} {ns : List Int} (hl : ns.length ≤ 63) (hO : Only H) (hS : SqL K H a (ns.map V.int)) : upF K spLaw [.ref a] H (fun v _ => v = .bl true) fun _ _ _ => False := by
  refine ⟨fun _ _ => False, [a], [.frz (ns.map D.int)], [.ref 0], fun d _ => d = .bl true, ⟨⟨rfl, fun n b o h1 h2 => ?_, fun n m b xs ys h1 h2 h3 h4 o1 o2 => ?_⟩, fun _ _ _ _ _ _ _ _ _ z => z.elim⟩, Rps.cons (.ref rfl) Rps.nil, ⟨ns, rfl, rfl, hl, fun _ => rfl⟩, fun v H' r' d S' e rel p q => ?_⟩
  · cases n with
    | zero =>
      simp at h1 h2
      subst h1; subst h2
      exact ⟨_, only_frz hO hS, ints_rps ns⟩
    | succ n => simp at h1
  · cases n with
    | zero =>
      simp at h3
      subst h3
      cases o1
    | succ n => simp at h1
  · subst q
    cases p
    rfl
theorem law_walk {l : PySem.W.OpenLaw} {q : Program} {loose : List Str} {XP : (Str → Option Value) → Heap → Prop} {YP : World → Heap → Prop} {d : DefRec} {K : Params → PySem.W.Frag} {x : Str} (k : Nat) (hn : l.most = some 63) (hdf : d.params.defaults = []) (hr : Room k callerA)
    (hY : ∀ (w : World) (h : Heap), YP w h → (K w.params).In h)
    (F : ∀ (w : World) (mg : Str → Option Value) (fa : Addr) (h : Heap), (K w.params).In h → h.Ns mainGlobals mg → mg d.name = some (.ref fa) →
      ∃ fd : FuncData, (∀ (s : Shared) (u : Value), BindsTo s fd ⟨[u], []⟩ [(x, u)]) ∧ ∀ base : Heap, (K w.params).In base → base.Ns mainGlobals mg → FnOk l.prog w (K w.params) mg base (CXE l.prog w) k fa fd [x] (upF (K w.params) spLaw)) :
    PySem.W.WalkO q loose XP YP l.row.toRowW d [] (fun f vs => PySem.call f vs) :=
  L2.walk_of (n := 63) (k := k) (x := x) (CX := fun w => CXE l.prog w) (sp := fun w => upF (K w.params) spLaw) hn (by decide) hdf hr hY F (fun _ _ a ns hl hO hS => law_start hl hO hS) fun _ _ _ _ _ ⟨_, _, _, _, _, _, _, _, _, _, _, _, z⟩ => z
end L3
namespace L3
open PySem PySem.Spec PyProof.Rows L2
theorem kit_all (K : PySem.W.Frag) (T : String) (h : T ∈ ["int", "bool", "tuple", "str"]) : Kit K T := by
  intro t ht
  simp only [List.mem_cons, List.not_mem_nil, or_false] at h ht
  rcases h with rfl | rfl | rfl | rfl <;> rcases ht with rfl | rfl | rfl | rfl | rfl <;> kernel_rfl
end L3

/-! ### short words -/
namespace L3
open PySem PySem.Spec PyProof.Rows L2
theorem ifT {c : Bool} {A B : Prop} (h : c = true) (a : A) : if c = true then A else B := by rw [if_pos h]; exact a
theorem ifF {c : Bool} {A B : Prop} (h : c = false) (b : B) : if c = true then A else B := by rw [h]; exact iteF b
theorem ifP {c A B : Prop} [Decidable c] (h : c) (a : A) : if c then A else B := by rw [if_pos h]; exact a
theorem ifD {c : Prop} [Decidable c] {A B : Prop} (h1 : c → A) (h2 : ¬ c → B) : if decide c = true then A else B := by
  by_cases h : c
  · rw [decide_eq_true h]; exact iteT (h1 h)
  · rw [decide_eq_false h]; exact iteF (h2 h)
end L3
namespace L3
open PySem L2
end L3
namespace L3
open PySem L2
end L3
namespace L3
theorem ifN {c : Prop} [Decidable c] {A B : Prop} (h1 : ¬ c → A) (h2 : c → B) : if (!decide c) = true then A else B := by
  by_cases h : c
  · rw [decide_eq_true h]; exact L2.iteF (h2 h)
  · rw [decide_eq_false h]; exact L2.iteT (h1 h)
end L3

/-! ### raise -/
namespace L3
open PySem PySem.Spec PyProof.Rows L2
section
variable {X : Cx} {Z : Zx}
def dRaise (ex : Ev → Addr → Sto → Prop) (c : Addr) (t : TDA) : TDS := fun _ dl S => t dl S fun ds S1 => if ds.length ≤ 1000 then ex dl c S1 else False
theorem pds_raise {x : Str} {C : Addr} {bm : List Value} {nid B inid : String} {np cpos pos : Pos} {e : Expr} {es : List Expr} {t : TDA} (c : Xc X.K X.mg x C bm nid) (FB : ExcBaseFacts B nid inid bm) {ex : Ev → Addr → Sto → Prop} {W : St → XK} (hx : RaisesTo X W) (hh : X.A.handled = none) (hg : Gl X x)
    (ha : PDA X ⟨ex, W⟩ (e :: es) t) (he : starEach (e :: es) X.env = (false, eval e X.env) :: starEach es X.env := by rfl) (hpl : (backTo cpos (starEach es X.env)).any (·.1) = false := by rfl) (hd : (x == ("__debug__" : Str)) = false := by decide) :
    PDS X ⟨ex, W⟩ (.Raise (some (.Call (.Name x np) (e :: es) [] cpos)) none pos) (dRaise ex C t) := by
  intro pins s σ H F I h
  obtain ⟨r, dl, S, E, rs, rel, h, ret⟩ := h
  obtain ⟨ml, Nn, cn, cq, cb, cdc, csn, csu, cab, cco, cdd, u0, u1, u2, u3, u5, mN, hC, hN, hni, T⟩ := (xc_own c I.ok.mod.kin).obj
  refine wpAny_Raise_call_subT (C := C) (nm := cn) (q := cq) (N := Nn) (bs := cb) (bm := ml) (hdct := cdc) (sn := csn) (sub := csu) (ab := cab) (col := cco) (dd := cdd) (k0 := u0) (k1 := u1) (k2 := u2) (k3 := u3) (k5 := u5)
    FB (mN := mN) (T.hasType FB.hasBase) hh (by rw [he]; show (false || (backTo cpos (starEach es X.env)).any (·.1)) = false; rw [hpl]; rfl) hni (ld_glob I hg c.bound ⟨rfl, ?_⟩ hd)
  have ha' := ha cpos pins s σ H (fun vs H1 => vs.length ≤ sizeLine ∧ W σ (.ref C) none H1) I ⟨r, dl, S, _, rs, rel, h, fun vs H1 r1 ds S1 e1 rel1 p1 h1 => by
    obtain ⟨hl, h1⟩ := ite_of h1
    exact ⟨by rw [← p1.1]; exact size1000 hl, rel1.xw dl σ C H1 r1 S1 Ext.refl (rs.ext e1) rel1.b h1⟩⟩
  rw [he] at ha' ⊢
  refine Calls.evalArgs_plain (wpAny_mono ha' (fun us s2 h2 => ?_) fun _ _ y => y)
  obtain ⟨vs, H1, I1, rv, hz, hw⟩ := h2
  have keep : ∀ b o, X.base.get? b = some o → s2.heap.get? b = some o := fun b o z => (I1.bs b o z).1
  refine ⟨rfl, by rw [← rv.length]; exact hz, keep _ _ hC, hN.keeps keep, T.keeps keep, fun h' ea hm => ?_⟩
  exact hx pins σ H1 s2 h' ea C us I1 hm hw

/-! ### try: body, one clause that names a class of the text -/
/-- the same code with another wish, another mark -/
abbrev Cx.mrk (X : Cx) (A : Around) (E : Value → Shared → Prop) : Cx := { X with A := A, calm := false, xe := E }
theorem ok_mrk (ok : X.Ok) {A : Around} {E : Value → Shared → Prop} (hf : A.frames = X.A.frames) : (Cx.mrk X A E).Ok :=
  ⟨ok.mod, ok.kind, ok.glob, ok.blt, ok.above, ok.inj, ok.has, ok.cab, fun z => Bool.noConfusion z, hf.trans ok.frames, ok.stk, ok.exf, ok.bs, ok.bsz, ok.noex, ok.exfs, ok.funs, ok.frf⟩
theorem inv_mrk {pins : List (Addr × Obj)} {σ : St} {H : Hp} {s : Shared} {A : Around} {E : Value → Shared → Prop} (ok : X.Ok) (I : Inv (Cx.mrk X A E) pins σ H s) : Inv X pins σ H s :=
  ⟨ok, I.os, I.bare, I.base, I.loc, I.cell, I.free, I.freeC, I.pin, I.hok, I.len⟩
theorem sp_mrk {pins : List (Addr × Obj)} {D : Ends} {f : Flow} {s' : Shared} {A : Around} {E : Value → Shared → Prop} (ok : X.Ok) (h : SP (Cx.mrk X A E) pins D f s') : SP X pins D f s' := by
  cases f with
  | next => obtain ⟨σ', H', I, q⟩ := h; exact ⟨σ', H', inv_mrk ok I, q⟩
  | brk => obtain ⟨σ', H', I, q⟩ := h; exact ⟨σ', H', inv_mrk ok I, q⟩
  | cont => obtain ⟨σ', H', I, q⟩ := h; exact ⟨σ', H', inv_mrk ok I, q⟩
  | ret u => obtain ⟨v, σ', H', I, r, q⟩ := h; exact ⟨v, σ', H', inv_mrk ok I, r, q⟩
/-- pinned for the whole of the body -/
abbrev Cx.held (X : Cx) (pins : List (Addr × Obj)) (E : Value → Shared → Prop) : Cx := { X with pn := X.pn ++ pins, xe := E }
theorem ok_held (ok : X.Ok) (pins : List (Addr × Obj)) (E : Value → Shared → Prop) : (Cx.held X pins E).Ok :=
  ⟨ok.mod, ok.kind, ok.glob, ok.blt, ok.above, ok.inj, ok.has, ok.cab, ok.hd, ok.frames, ok.stk, ok.exf, ok.bs, ok.bsz, ok.noex, ok.exfs, ok.funs, ok.frf⟩
theorem inv_held {pins : List (Addr × Obj)} {σ : St} {H : Hp} {s : Shared} (I : Inv X pins σ H s) (E : Value → Shared → Prop) : Inv (Cx.held X pins E) [] σ H s :=
  ⟨ok_held I.ok pins E, I.os, I.bare, I.base, I.loc, I.cell, I.free, I.freeC, fun p hp => I.pin p (by simpa using hp), I.hok, I.len⟩
theorem inv_unheld {pins : List (Addr × Obj)} {σ : St} {H : Hp} {s : Shared} {E : Value → Shared → Prop} (ok : X.Ok) (I : Inv (Cx.held X pins E) [] σ H s) : Inv X pins σ H s :=
  ⟨ok, I.os, I.bare, I.base, I.loc, I.cell, I.free, I.freeC, fun p hp => I.pin p (by simpa using hp), I.hok, I.len⟩
theorem sp_unheld {pins : List (Addr × Obj)} {D : Ends} {f : Flow} {s' : Shared} {E : Value → Shared → Prop} (ok : X.Ok) (h : SP (Cx.held X pins E) [] D f s') : SP X pins D f s' := by
  cases f with
  | next => obtain ⟨σ', H', I, q⟩ := h; exact ⟨σ', H', inv_unheld ok I, q⟩
  | brk => obtain ⟨σ', H', I, q⟩ := h; exact ⟨σ', H', inv_unheld ok I, q⟩
  | cont => obtain ⟨σ', H', I, q⟩ := h; exact ⟨σ', H', inv_unheld ok I, q⟩
  | ret u => obtain ⟨v, σ', H', I, r, q⟩ := h; exact ⟨v, σ', H', inv_unheld ok I, r, q⟩
/-- behind the flight, in the frame that catches: nothing is known of the names, all else as the wish says -/
theorem inv_caught {pins pins' : List (Addr × Obj)} {σ : St} {H H' : Hp} {s s' : Shared} {B h5 : Heap} {ea c : Addr} {a0 : Value} {E : Value → Shared → Prop} (hex : X.ex = []) (hs : X.stack = X.env :: X.outer) (hf : X.env.frame = some X.env.locals)
    (hcl : ∀ x a, X.env.cells.lookup x = some a → False) (ok : X.Ok) (I : Inv (Cx.held X pins E) pins' σ H s) (os : s'.os = s.os) (bare : AllBare s'.gens) (un : Un (frs X.stack) [] H H' s.heap s'.heap) (hok : HOk X.prog X.w H' s'.heap)
    (fl : Heap.FlyingW B (X.env :: X.outer) ea (.ref c) a0 s'.heap) (fl5 : Heap.FlyingW B (X.env :: X.outer) ea (.ref c) a0 h5) (up : s'.heap.UpToSlots h5) (bk : Bk (frs X.stack) H H' B s.heap ea) :
    Inv X pins σ (upd H' ea (isX ea c)) { s' with heap := h5 } := by
  have nx : ∀ b : Addr, b ∉ X.ex := fun b z => by rw [hex] at z; exact absurd z (by simp)
  obtain ⟨oe, hoe, hce⟩ := fl5.there
  have fl5' : Heap.FlyingW B X.outer ea (.ref c) a0 h5 := by
    obtain ⟨k1, k2, ⟨_, _, k3⟩, k4⟩ := fl5
    exact ⟨k1, k2, k3, k4⟩
  have core := un_flight (X := Cx.held X pins E) I hex hs hf un fl fl5' up bk
  obtain ⟨un5, bk5⟩ := core
  have hok5 : HOk X.prog X.w H' h5 := hok_stays hok bk.trk fl.1 fl5.1
  have hLm : X.env.locals ∈ frs X.stack := (own_frame I hs hf).mpr (.inl rfl)
  have hneL : X.env.locals ≠ ea := fun z => by
    obtain ⟨_, o3, e3, d3⟩ := fl5.2.2.1.mem (show X.env.locals ∈ (X.env :: X.outer).filterMap (·.frame) by rw [← hs]; exact hLm)
    obtain ⟨oe2, ws, e4, _, d4, _⟩ := fl5.first
    rw [z, e4] at e3
    cases e3
    exact d3 _ d4
  have nf : ∀ b ∈ X.fs, b ≠ ea := fun b hb z => by
    obtain ⟨_, o3, e3, d3⟩ := fl5.2.2.1.mem (show b ∈ (X.env :: X.outer).filterMap (·.frame) by rw [← hs]; exact (own_frame I hs hf).mpr (.inr hb))
    obtain ⟨oe2, ws, e4, _, d4, _⟩ := fl5.first
    rw [z, e4] at e3
    cases e3
    exact d3 _ d4
  have oldne : ∀ {b : Addr} {o : Obj}, X.s₀.heap.get? b = some o → b ≠ ea := fun {b o} e z => by
    by_cases hb : b ∈ X.fs
    · exact nf b hb z
    · obtain ⟨o', e'⟩ := bk5.all b o e hb
      rw [z, fl5.2.1] at e'; cases e'
  refine ⟨ok, os.trans I.os, bare, ?_, ?_, fun x a z => (hcl x a z).elim, ?_, fun x a z => (hcl x a z).elim, ?_, ?_, I.len⟩
  · refine ⟨fun b o e n hb hx => un5.keep b o e n hb (by simp), fun b o e n hb hx => un5.slot b o e n hb (by simp), fun b o e n hx => by rw [upd_ne (oldne e)]; exact un5.free b o e n (by simp), fun b o e hx => un5.there b o e (by simp), ?_, ?_, ?_⟩
    · intro b xs e
      have z := un5.tups b xs e
      rw [upd_ne (ne_of_none z bk.new)]; exact z
    · intro b ob u e
      have z := un5.frzs b ob u e
      rw [upd_ne (ne_of_none z bk.new)]; exact z
    · intro b ps e
      obtain ⟨more, z⟩ := un5.tbls b ps e
      exact ⟨more, by rw [upd_ne (ne_of_none z bk.new)]; exact z⟩
  · obtain ⟨m, hn, look⟩ := I.loc
    obtain ⟨o, es, ep, ho, hd, rr⟩ := hn
    obtain ⟨sl, e2⟩ := un.slot _ o ho I.free hLm (by simp)
    have hn2 : s'.heap.Ns X.env.locals m := ⟨_, es, ep, e2, hd, rr⟩
    refine ⟨m, up.ns hn2, fun i x v hx z vis => ?_⟩
    obtain ⟨u, ru, lk⟩ := look i x v hx z vis
    rcases lk with lk | ⟨_, c, hc, _⟩
    · exact ⟨u, ru, .inl lk⟩
    · exact (hcl x c hc).elim
  · rw [upd_ne hneL]
    obtain ⟨m, ⟨o, _, _, ho, _⟩, _⟩ := I.loc
    exact un.free _ o ho I.free (by simp)
  · intro p hp
    obtain ⟨p1, p2, p3, p4, p5⟩ := I.pin p (List.mem_append_left _ hp)
    have hst : p.1 ∉ frs X.stack := fun z => by
      rcases (own_frame I hs hf).mp z with z | z
      · exact p3 z
      · exact p4 z
    have hB := bk.old p.1 p.2 p1 p2 hst
    have hne : p.1 ≠ ea := fun z => by rw [z, fl5.2.1] at hB; cases hB
    exact ⟨fl5.1 _ _ hB, by rw [upd_ne hne]; exact un.free _ _ p1 p2 (by simp), p3, p4, p5⟩
  · intro b u e
    by_cases hb : b = ea
    · subst hb
      rw [upd_same] at e
      cases e
      exact ⟨⟨oe, hoe, hce⟩, ⟨oe, hoe⟩, fun h1 h2 ⟨o, q1, q2⟩ k => ⟨o, k o q1, q2⟩⟩
    · rw [upd_ne hb] at e
      exact (hok5 b u e).stay (fun _ _ _ z => z) (fun d z => by rw [upd_ne (ne_of_none z bk.new)]; exact z) fun d xs z => by rw [upd_ne (ne_of_none z bk.new)]; exact z
end
end L3
namespace L3
open PySem PySem.Spec PyProof.Rows L2
/-! ### calls while an exception is being handled: callees that raise nothing, walk nothing -/
structure RoomN (k : Nat) (A : Around) : Prop where
  dp : A.depth + 3 * k + 5 < recursionLimit
  un : A.units + 16 * k + 200 < cLine
theorem RoomN.mono {j k : Nat} {A : Around} (r : RoomN k A) (h : j ≤ k) : RoomN j A := ⟨by have := r.dp; omega, by have := r.un; omega⟩
theorem RoomN.deeper {k : Nat} {A : Around} (r : RoomN (k + 1) A) (env : Env) : RoomN k (A.deeper env) :=
  ⟨by have := r.dp; show A.depth + 1 + 3 * k + 5 < _; omega, by have := r.un; show A.units + 3 + 16 * k + 200 < _; omega⟩
abbrev cxN (P : Program) (w : World) (K : PySem.W.Frag) (mg : Str → Option Value) (base : Heap) (N : List Str) (qual : Str) (scope : Scope) (f : Addr) (cd : Value) (A : Around) (outer : List Env) (s : Shared) (H : Hp) (E : XK) : Cx :=
  { cxOf (CXE P w) P w K mg base N qual scope f cd A outer s H E with calm := false }
structure FnOkN (P : Program) (w : World) (K : PySem.W.Frag) (mg : Str → Option Value) (base : Heap) (k : Nat) (f : Addr) (fd : FuncData) (ps : List Str) (sp : Sp) : Prop where
  len : ∀ vs H Q E, sp vs H Q E → vs.length = ps.length
  run : ∀ (A : Around) (outer : List Env) (s : Shared) (H : Hp) (args : Args) (us : List Value) (vs : List V) (Q : VK) (E : XK), RoomN k A → Env0 P w K mg base A outer s H → BindsTo s fd args (ps.zip us) → Vals vs us → sp vs H Q E →
    codeAny (model P w) A (.call (.ref f) args) (CR (CXE P w) outer P w H s Q E) s
theorem fn_ofN {P : Program} {w : World} {K : PySem.W.Frag} {mg : Str → Option Value} {base : Heap} {k : Nat} {f : Addr} {name qual : Str} {params : Arguments} {body : List Stmt} {scope : Scope} {dV kV doc pm cdv ct oc : Value} {an od : Option Addr}
    {osl : Array (Option Value)} {N ps : List Str} {sp : Sp} (lk : K.lookup f = some ⟨oc, od, .func (PySem.W.fnOf name qual params body scope dV kV doc pm an cdv ct), osl⟩) (hcd : PySem.W.codeIn K cdv qual = true) (S : FnScope N ps scope)
    (len : ∀ vs H Q E, sp vs H Q E → vs.length = ps.length)
    (hbody : ∀ (A : Around) (outer : List Env) (s : Shared) (H : Hp) (vs : List V) (Q : VK) (E : XK), RoomN k (A.deeper (envOfC qual scope s.heap.objs.size f cdv)) → sp vs H Q E →
      ∃ t, PSs (cxN P w K mg base N qual scope f cdv A outer s H E) body t ∧ t { nx := fun _ H' => Q .non H', rt := Q } (start N vs) H) :
    FnOkN P w K mg base (k + 1) f (PySem.W.fnOf name qual params body scope dV kV doc pm an cdv ct) ps sp := by
  refine ⟨len, fun A outer s H args us vs Q E hr e0 hb r hsp => ?_⟩
  have hl := len _ _ _ _ hsp
  have KX : K.In s.heap := e0.mod.kin.keeps fun b o e => (e0.bs b o e).1
  have lim : s.heap.NoLimit := e0.mod.nolimit.keeps fun b o e => (e0.bs b o e).1
  have hkind : ∀ y ∈ ps.zip us, scope.names.lookup y.1 = some .local ∨ (scope.names.lookup y.1 = some .cell ∧ ((cellsFrom (s.heap.objs.size + 1) scope.names []).lookup y.1).isSome = true) := fun ⟨n, v⟩ hy => by
    rcases S.par n (List.of_mem_zip hy).1 with q | q
    · exact .inl q
    · exact .inr ⟨q, PySem.W.cellsFrom_some _ _ _ (.inl q)⟩
  refine codeAny_call_function (show A.depth < recursionLimit by have := hr.dp; omega) (KX _ _ lk) rfl S.co S.gen rfl (PySem.W.codeRec_of KX hcd) (hb _ _ _ _ ?_)
  refine wpAny_newFunctionEnv_cells S.kind hkind fun env he s1 x => ?_
  subst he
  refine ⟨lim.keeps x.toInCall.keep, codeAny_func ?_⟩
  obtain ⟨t, ht, hq⟩ := hbody A outer s H vs Q E (hr.deeper _) hsp
  have I0 := inv_start (CX := CXE P w) (E := E) (f := f) (qual := qual) (cd := cdv) (A := { A with handled := none }) (H := H) S rfl ⟨e0.frames, e0.mod, e0.bs, e0.bsz, e0.funs, e0.frf, e0.hok, e0.bare⟩ hl r x
  have I : Inv (cxN P w K mg base N qual scope f cdv A outer s H E) [] (start N vs) H s1 := ⟨ok_mrk (A := A.deeper (envOfC qual scope s.heap.objs.size f cdv)) (E := (cxN P w K mg base N qual scope f cdv A outer s H E).xe) I0.ok rfl, I0.os, I0.bare, I0.base, I0.loc, I0.cell, I0.free, I0.freeC, I0.pin, I0.hok, I0.len⟩
  refine wpAny_mono (ht [] s1 (start N vs) H _ I hq) (fun fl s' hs => ?_) fun e s' hs => hs
  have fin : ∀ {σ' : St} {H' : Hp} {v : V} {u : Value}, Inv (cxN P w K mg base N qual scope f cdv A outer s H E) [] σ' H' s' → RelV v u → Q v H' → CE outer P w H s Q u s' :=
    fun {σ' H' v u} J rv q => ⟨v, H', J.os, J.bare, J.base, J.hok, rv, q⟩
  cases fl with
  | ret u =>
    obtain ⟨v, σ', H', J, rv, q⟩ := hs
    exact fin J rv q
  | next =>
    obtain ⟨σ', H', J, q⟩ := hs
    exact fin (v := V.non) (u := Value.none) J rfl q
  | brk =>
    obtain ⟨_, _, _, q⟩ := hs
    exact False.elim q
  | cont =>
    obtain ⟨_, _, _, q⟩ := hs
    exact False.elim q
section
variable {X : Cx} {k : Nat} {f : Addr} {fd : FuncData} {ps : List Str} {sp : Sp} {W : St → XK} {x : Str} {p pos : Pos} {e : Expr} {es : List Expr} {t : TA}
theorem run_atN {pins : List (Addr × Obj)} {σ : St} {H : Hp} {s : Shared} {Q : VK} {us : List Value} {vs : List V} (F : FnOkN X.prog X.w X.K X.mg X.base k f fd ps sp) (hr : RoomN k X.A) (hb : Binds X.K fd ps []) (hx : PassesS X W)
    (I : Inv X pins σ H s) (r : Vals vs us) (h : sp vs H Q (W σ)) : wpAny (model X.prog X.w) X.A (call (.ref f) us) (EP X pins σ Q) X.xe s := by
  have hl : us.length = ps.length := by rw [← r.length]; exact F.len _ _ _ _ h
  have hb' := hb s us I.kIn (by rw [List.append_nil]; exact hl)
  rw [List.append_nil] at hb'
  refine wpAny_call (codeAny_mono (F.run X.A X.stack s H ⟨us, []⟩ us vs Q (W σ) hr I.env0 hb' r h) fun z s' hq => ?_)
  cases z with
  | error ev => exact hx pins σ H s ev s' I hq
  | ok fl =>
    cases fl with
    | ret u => exact I.after hq
    | _ => exact False.elim hq
theorem pe_callSN (F : FnOkN X.prog X.w X.K X.mg X.base k f fd ps sp) (hr : RoomN k X.A) (hg : Gl X x) (hm : X.mg x = some (.ref f)) (hk : PySem.W.keepIn X.K (.ref f) = true) (hb : Binds X.K fd ps []) (hx : PassesS X W)
    (ha : PA X (e :: es) t) (hdb : (x == ("__debug__" : Str)) = false) (he : starEach (e :: es) X.env = (false, eval e X.env) :: starEach es X.env) (hpl : (backTo pos (starEach es X.env)).any (·.1) = false) :
    PE X (.Call (.Name x p) (e :: es) [] pos) (fun σ H Q => t σ H fun vs H1 => sp vs H1 Q (W σ)) := by
  intro pins s σ H Q I h
  refine wpAny_Call_Name_kw (ld_glob I hg hm ?_ hdb)
  exact PySem.W.callWith_K (h₀ := X.base) I.ok.mod.kin hk (thn (ha pos pins s σ H _ I h) fun us s1 ⟨vs, H1, I1, r, q⟩ => ⟨I1.kIn, run_atN F hr hb hx I1 r q⟩) he hpl
end
section
variable {X : Cx} {Z : Zx} {x : Str} {p pos : Pos} {e : Expr} {es : List Expr} {t : TDA}
theorem pd_callN0 {k : Nat} {f : Addr} {fd : FuncData} {ps : List Str} {sd : Sd} (F : FnOkN X.prog X.w X.K X.mg X.base k f fd ps (upF X.K sd)) (hr : RoomN k X.A) (hg : Gl X x) (hm : X.mg x = some (.ref f)) (hk : PySem.W.keepIn X.K (.ref f) = true)
    {ex : Ev → Addr → Sto → Prop} {W : St → XK} (hb : Binds X.K fd ps []) (hx : PassesS X W) (ha : PDA X ⟨ex, W⟩ (e :: es) t) (hdb : (x == ("__debug__" : Str)) = false := by decide) (he : starEach (e :: es) X.env = (false, eval e X.env) :: starEach es X.env := by rfl)
    (hpl : (backTo pos (starEach es X.env)).any (·.1) = false := by rfl) : PD X ⟨ex, W⟩ (.Call (.Name x p) (e :: es) [] pos) (dCallF ex sd t) :=
  PEimp (pe_callSN F hr hg hm hk hb hx ha hdb he hpl) fun σ H Qv ⟨r, dl, S, Q, rs, rel, h, ret⟩ => ⟨r, dl, S, _, rs, rel, h, fun vs H1 r1 ds S1 e1 rel1 p1 h1 => up_sd (Z := ⟨ex, W⟩) (rs.ext e1) rel1 p1 h1 (ret.ext e1)⟩
end
section
variable {P : Program} {w : World} {K : PySem.W.Frag} {mg : Str → Option Value} {base : Heap}
theorem fun_okN {x qual : Str} {st : Stmt} {f : Addr} {fd : FuncData} {N ps : List Str} {k : Nat} {sd : Sd} (F : Fun K x qual st f fd) (Sc : FnScope N ps (defScope st)) (len : ∀ ds S Q ex, sd ds S Q ex → ds.length = ps.length)
    (hbody : ∀ (cdv : Value) (A : Around) (outer : List Env) (s : Shared) (H : Hp) (E : XK), RoomN k (A.deeper (envOfC qual (defScope st) s.heap.objs.size f cdv)) →
      ∃ t, PDSs (cxN P w K mg base N qual (defScope st) f cdv A outer s H E).nox Z0 (defBody st) t ∧ ∀ ds S Q ex, sd ds S Q ex → t { nx := fun _ S' => Q .non S', rt := Q } (startD N ds) S) : FnOkN P w K mg base (k + 1) f fd ps (upF K sd) := by
  obtain ⟨oc, od, kV, doc, pm, an, cdv, ct, osl, rfl, lk, hcd⟩ := F.ex
  refine fn_ofN lk hcd Sc (fun vs H Q E h => ?_) fun A outer s H vs Q E hr h => ?_
  · obtain ⟨ex, r, S, ds, Q', rel, p, q, ret⟩ := h
    rw [← p.1]
    exact len ds S Q' ex q
  · obtain ⟨ex, r, S, ds, Q', rel, p, q, ret⟩ := h
    obtain ⟨t, ht, hq⟩ := hbody cdv A outer s H E hr
    have back : ∀ {H' : Hp} {r' : List Addr} {S' : Sto}, Ext r r' H H' → Rel K Z0 r' S' H' → Rel K (Zc ex E) r' S' H' := fun x rel' => ⟨rel'.b, rel.xw.ext x⟩
    refine ⟨upS K Z0 t, ht.nox, r, startD N ds, S, _, rs_start p, ⟨rel.b, fun _ _ _ _ _ _ _ _ _ z => z.elim⟩, hq ds S Q' ex q, ?_, ?_, ?_, ?_⟩
    · intro σ' H' r' dl' S' x _ rel' z
      exact ret .non H' r' .non S' x (back x rel') .non z
    · intro σ' H' r' dl' S' x _ rel' z
      exact z
    · intro σ' H' r' dl' S' x _ rel' z
      exact z
    · intro v H' r' d S' x rel' p' z
      exact ret v H' r' d S' x (back x rel') p' z
end
structure FkN (P : Program) (w : World) (K : PySem.W.Frag) (mg : Str → Option Value) (base : Heap) (k : Nat) (x : Str) (ps : List Str) (sd : Sd) where
  f : Addr
  fd : FuncData
  ok : FnOkN P w K mg base k f fd ps (upF K sd)
  m : mg x = some (.ref f)
  kp : PySem.W.keepIn K (.ref f) = true
  b : Binds K fd ps []
def Df.mkN {P : Program} {w : World} {K : PySem.W.Frag} {mg : Str → Option Value} {base : Heap} {k : Nat} {x : Str} {st : Stmt} {ps : List Str} {sd : Sd} (d : Df K mg x st ps) (h : FnOkN P w K mg base k d.f d.fd ps (upF K sd)) : FkN P w K mg base k x ps sd :=
  ⟨d.f, d.fd, h, d.m, d.F.kp, d.b⟩
theorem pd_callN {X : Cx} {x : Str} {p pos : Pos} {e : Expr} {es : List Expr} {t : TDA} {k : Nat} {ps : List Str} {sd : Sd} {ex : Ev → Addr → Sto → Prop} {W : St → XK} (G : FkN X.prog X.w X.K X.mg X.base k x ps sd) (hr : RoomN k X.A) (hx : PassesS X W) (hg : Gl X x) (ha : PDA X ⟨ex, W⟩ (e :: es) t)
    (hdb : (x == ("__debug__" : Str)) = false := by decide) (he : starEach (e :: es) X.env = (false, eval e X.env) :: starEach es X.env := by rfl) (hpl : (backTo pos (starEach es X.env)).any (·.1) = false := by rfl) :
    PD X ⟨ex, W⟩ (.Call (.Name x p) (e :: es) [] pos) (dCallF ex sd t) := pd_callN0 G.ok hr hg G.m G.kp G.b hx ha hdb he hpl
end L3

/-! ### try .. except CLASS -/
namespace L3
open PySem PySem.Spec PyProof.Rows L2
section
variable {X : Cx} {Z : Zx}
/-- what is wanted behind the statement, where a suite ends: the wish about exceptions is another one there -/
theorem rets_z0 {r r' : List Addr} {H H' : Hp} {S : Sto} {E : EndsD} {F : Ends} (ret : RetS X.K Z r H E F) (rel : Rel X.K Z r S H) (x : Ext r r' H H') : RetS X.K Z0 r' H' E F := by
  have back : ∀ {H2 : Hp} {r2 : List Addr} {S2 : Sto}, Ext r' r2 H' H2 → Rel X.K Z0 r2 S2 H2 → Rel X.K Z r2 S2 H2 := fun x2 rel2 => ⟨rel2.b, rel.xw.ext (x.trans x2)⟩
  exact ⟨fun σ2 H2 r2 dl2 S2 x2 rs2 rel2 q => ret.nx σ2 H2 r2 dl2 S2 (x.trans x2) rs2 (back x2 rel2) q, fun σ2 H2 r2 dl2 S2 x2 rs2 rel2 q => ret.bk σ2 H2 r2 dl2 S2 (x.trans x2) rs2 (back x2 rel2) q,
    fun σ2 H2 r2 dl2 S2 x2 rs2 rel2 q => ret.ct σ2 H2 r2 dl2 S2 (x.trans x2) rs2 (back x2 rel2) q, fun v H2 r2 d S2 x2 rel2 p q => ret.rt v H2 r2 d S2 (x.trans x2) (back x2 rel2) p q⟩
theorem rets_z {Z' : Zx} {r : List Addr} {H : Hp} {S : Sto} {E : EndsD} {F : Ends} (ret : RetS X.K Z r H E F) (rel : Rel X.K Z r S H) : RetS X.K Z' r H E F := by
  have back : ∀ {H2 : Hp} {r2 : List Addr} {S2 : Sto}, Ext r r2 H H2 → Rel X.K Z' r2 S2 H2 → Rel X.K Z r2 S2 H2 := fun x2 rel2 => ⟨rel2.b, rel.xw.ext x2⟩
  exact ⟨fun σ2 H2 r2 dl2 S2 x2 rs2 rel2 q => ret.nx σ2 H2 r2 dl2 S2 x2 rs2 (back x2 rel2) q, fun σ2 H2 r2 dl2 S2 x2 rs2 rel2 q => ret.bk σ2 H2 r2 dl2 S2 x2 rs2 (back x2 rel2) q,
    fun σ2 H2 r2 dl2 S2 x2 rs2 rel2 q => ret.ct σ2 H2 r2 dl2 S2 x2 rs2 (back x2 rel2) q, fun v H2 r2 d S2 x2 rel2 p q => ret.rt v H2 r2 d S2 x2 (back x2 rel2) p q⟩
theorem ext_upd {r : List Addr} {H : Hp} {a : Addr} {o : HO} (h : H a = none) : Ext r r H (upd H a o) := ⟨fun _ _ q => q, fun _ _ q => same_upd h _ _ q, fun _ _ q => same_upd h _ _ q⟩
def dTry (n : Nat) (tb : (Ev → Addr → Sto → Prop) → TDS) (hit : Addr → Bool) (ts : TDS) : TDS := fun E dl S => tb (fun dl' c S' => hit c = true ∧ ts E dl' S') E dl S
/-- .. except CLASS as NAME: the name stands for the exception in the suite, for nothing behind it -/
def dTryA (n i : Nat) (tb : (Ev → Addr → Sto → Prop) → TDS) (hit : Addr → Bool) (ts : TDS) : TDS := fun E dl S => tb (fun dl0 c S' => hit c = true ∧ ts { nx := fun dl' S2 => E.nx (dl'.set i none) S2, rt := E.rt, bk := fun dl' S2 => E.bk (dl'.set i none) S2, ct := fun dl' S2 => E.ct (dl'.set i none) S2 } (dl0.set i (some (.exc c))) S') E dl S
theorem rs_unset {r : List Addr} {H : Hp} {dl : Ev} {σ : St} (i : Nat) (h : Rs r H dl σ) : Rs r H (dl.set i none) (σ.set i none) := by
  refine ⟨by simp [h.1], fun j d e => ?_⟩
  by_cases hij : i = j
  · subst hij
    have hl : i < dl.length := by
      have := (List.getElem?_eq_some_iff.mp e).1
      simpa using this
    rw [List.getElem?_set_self hl] at e
    cases e
  · rw [List.getElem?_set_ne hij] at e
    obtain ⟨v, h1, h2⟩ := h.2 j d e
    exact ⟨v, by rw [List.getElem?_set_ne hij]; exact h1, h2⟩
/-- the name goes behind the suite -/
theorem name_goes {pins : List (Addr × Obj)} {σ : St} {H : Hp} {s : Shared} {A : Around} {E : Value → Shared → Prop} {i : Nat} {n : Str} {pos : Pos} {Q : Unit → Shared → Prop} (I : Inv X pins σ H s) (hN : X.N.Nodup) (hi : X.N[i]? = some n) (hl : X.env.scope.names.lookup n = some .local)
    (h : ∀ s', Inv X pins (σ.set i none) H s' → Q () s') : wpAny (model X.prog X.w) A (do bindName X.env n .none; unbindBehindTheSuite X.env n pos) Q E s := by
  obtain ⟨m, hn, hloc⟩ := I.loc
  refine wpAny_nameGoes_keeps hl hn (by rw [I.ok.kind]; rfl) fun h' v hn' sb => h _ ?_
  have nL : ∀ {b : Addr} {o : Obj}, X.s₀.heap.get? b = some o → b ≠ X.env.locals := fun {b o} e => Nat.ne_of_lt (Nat.lt_of_lt_of_le (Heap.lt_size e) I.ok.above)
  have hok' : HOk X.prog X.w H h' := fun b ob e => (I.hok b ob e).stay (fun c w' hc q => (sb.2 c (by
    rintro rfl
    rcases hc with rfl | hc
    · rw [I.free] at e; cases e
    · rw [I.free] at hc; cases hc)).trans q) (fun _ q => q) fun _ _ q => q
  refine ⟨I.ok, I.os, I.bare, ⟨fun b o e n hb hx => (sb.2 b (nL e)).trans (I.base.keep b o e n hb hx), fun b o e n hb hx => ?_, I.base.free, fun b o e hx => ?_, I.base.tups, I.base.frzs, I.base.tbls⟩, ⟨_, hn', fun j y v' e1 e2 e3 => ?_⟩, fun y c e => ?_, I.free, I.freeC, fun p hp => ?_, hok', by simpa using I.len⟩
  · obtain ⟨sl, e1⟩ := I.base.slot b o e n hb hx
    exact ⟨sl, (sb.2 b (nL e)).trans e1⟩
  · obtain ⟨o', e1⟩ := I.base.there b o e hx
    exact ⟨o', (sb.2 b (nL e)).trans e1⟩
  · by_cases hj : j = i
    · subst hj
      have hlt : j < σ.length := by rw [I.len]; exact (List.getElem?_eq_some_iff.mp hi).1
      rw [List.getElem?_set_self hlt] at e2
      cases e2
    · rw [List.getElem?_set_ne (Ne.symm hj)] at e2
      obtain ⟨u', r', q⟩ := hloc j y v' e1 e2 e3
      refine ⟨u', r', ?_⟩
      rcases q with ⟨k, e⟩ | ⟨k, c, e, z⟩
      · refine .inl ⟨k, ?_⟩
        have ne : y ≠ n := fun e => hj (nodup_ix hN e1 (e ▸ hi))
        simp [ne, e]
      · exact .inr ⟨k, c, e, z.sameBut sb (I.cne y c e)⟩
  · obtain ⟨w', z⟩ := I.cell y c e
    exact ⟨w', z.sameBut sb (I.cne y c e)⟩
  · obtain ⟨e, n1, ne, nf, d⟩ := I.pin p hp
    exact ⟨(sb.2 p.1 ne).trans e, n1, ne, nf, d⟩
theorem pds_tryA {body : List Stmt} {b0 : Stmt} {suite : List Stmt} {hx nm : Str} {np hp pos : Pos} {C : Addr} {n i : Nat} {tb : (Ev → Addr → Sto → Prop) → TDS} {hit : Addr → Bool} {ts : TDS} (hex : X.ex = []) (hs : X.stack = X.env :: X.outer) (hf : X.env.frame = some X.env.locals)
    (hcl : ∀ x a, X.env.cells.lookup x = some a → False) (hn : X.N.length = n) (hN : X.N.Nodup) (hi : X.N[i]? = some nm) (hl : X.env.scope.names.lookup nm = some .local) (hm : X.mg hx = some (.ref C)) (hg : Gl X hx)
    (hh : ∀ c, hit c = true → PySem.W.exmOne X.K (.ref c) (.ref C) = some true)
    (hb : ∀ (pins : List (Addr × Obj)) (xe : Value → Shared → Prop) (ex : Ev → Addr → Sto → Prop) (W : St → XK), PassesS (Cx.held X pins xe) W → PDSs (Cx.held X pins xe) ⟨ex, W⟩ body (tb ex))
    (hsu : ∀ (A : Around) (xe : Value → Shared → Prop), (∀ k, Room k X.A → RoomN k A) → PDSs (Cx.mrk X A xe) Z0 (b0 :: suite) ts) (hd : (hx == ("__debug__" : Str)) = false := by decide) :
    PDS X Z (.Try body [.ExceptHandler (some (.Name hx np)) (some nm) (b0 :: suite) hp] [] [] pos) (dTryA n i tb hit ts) := by
  intro pins s σ H F I h
  obtain ⟨r, dl, S, E, rs, rel, h, ret⟩ := h
  subst hn
  have pass : PassesS (Cx.held X pins (fun e s1 => wpAny (model X.prog X.w) X.A (noteFrame e X.env) (fun _ s2 => wpAny (model X.prog X.w) X.A (setFlight e none) (fun _ s3 => wpAny (model X.prog X.w) X.A (handleBy e X.env [.ExceptHandler (some (.Name hx np)) (some nm) (b0 :: suite) hp]) (SP X pins F) X.xe s3) X.xe s2) X.xe s1))
      (fun σ' cls _ H' => ∃ c r' S' dl', cls = .ref c ∧ Ext r r' H H' ∧ RelB X.K r' S' H' ∧ Rs r' H' dl' σ' ∧ hit c = true ∧ ts { nx := fun dl' S2 => E.nx (dl'.set i none) S2, rt := E.rt, bk := fun dl' S2 => E.bk (dl'.set i none) S2, ct := fun dl' S2 => E.ct (dl'.set i none) S2 } (dl'.set i (some (.exc c))) S') := by
    intro pins' σ' H1 s1 e s2 I1 hq
    obtain ⟨ea, c, a0, B, H', rfl, os, bare, un, hok, fl, bk, c', r', S', dl', ec, x', rb', rs', hit', hts⟩ := hq
    cases ec
    have fl0 : Heap.FlyingW B (X.env :: X.outer) ea (.ref c) a0 s2.heap := by rw [← hs]; exact fl
    refine wpAny_looks_onW (by rw [← hs]; exact I.ok.frames) hf fl0 fun h4 held4 up4 => ?_
    refine wpAny_landsW held4 fun h5 fl5 up5 => ?_
    have I5 := inv_caught hex hs hf hcl I.ok I1 os bare un hok fl0 fl5 (up4.trans up5) bk
    have LT : PySem.W.Looks (model X.prog X.w) h5 (typeOf (.ref ea)) (.ref c) := by
      obtain ⟨ob, hob, hc⟩ := fl5.there
      rw [← hc]
      exact (PySem.W.Looks.ld hob).andThen .now
    refine wpAny_handleBy_cons (codeAny_handlers_test ?_) (by intro q; cases q)
    have I5m : Inv (Cx.mrk X (X.A.mark (some (.ref ea))) X.xe) pins σ' (upd H' ea (isX ea c)) { s2 with heap := h5 } := ⟨ok_mrk I.ok rfl, I5.os, I5.bare, I5.base, I5.loc, I5.cell, I5.free, I5.freeC, I5.pin, I5.hok, I5.len⟩
    refine ld_glob I5m hg hm ?_ hd
    refine (PySem.W.exm_one (M := model X.prog X.w) I5.kIn LT (hh c hit')).here ?_
    refine codeAny_handlers_suite_as (lands_againW fl5 fun h6 fl6 up6 => ?_)
    have I6 := inv_caught hex hs hf hcl I.ok I1 os bare un hok fl0 fl6 ((up4.trans up5).trans up6) bk
    refine store_ok (v := .ref ea) I6 hN hi (.inl hl) rfl (fun s7 I7 => ?_) (.inr hl)
    have x6 : Ext r' r' H' (upd H' ea (isX ea c)) := ext_upd bk.new
    have ret6 := rets_z0 ret rel (x'.trans x6)
    have rs6 : Rs r' (upd H' ea (isX ea c)) (dl'.set i (some (.exc c))) (σ'.set i (some (.ref ea))) := (rs'.ext x6).set i (.exc upd_same)
    refine wpAny_mono (hsu (X.A.mark (some (.ref ea))) _ (fun _ q => ⟨q.dp, q.un⟩) pins s7 _ (upd H' ea (isX ea c))
      { nx := fun σ2 H2 => F.nx (σ2.set i none) H2, rt := F.rt, bk := fun σ2 H2 => F.bk (σ2.set i none) H2, ct := fun σ2 H2 => F.ct (σ2.set i none) H2 } ⟨ok_mrk I.ok rfl, I7.os, I7.bare, I7.base, I7.loc, I7.cell, I7.free, I7.freeC, I7.pin, I7.hok, I7.len⟩
      ⟨r', _, S', _, rs6, ⟨rb'.same (same_upd bk.new), fun _ _ _ _ _ _ _ _ _ z => z.elim⟩, hts, ⟨fun σ2 H2 r2 dl2 S2 x2 rs2 rel2 q => ret6.nx _ H2 r2 _ S2 x2 (rs_unset i rs2) rel2 q, fun σ2 H2 r2 dl2 S2 x2 rs2 rel2 q => ret6.bk _ H2 r2 _ S2 x2 (rs_unset i rs2) rel2 q,
        fun σ2 H2 r2 dl2 S2 x2 rs2 rel2 q => ret6.ct _ H2 r2 _ S2 x2 (rs_unset i rs2) rel2 q, ret6.rt⟩⟩) (fun f s' q => ?_) fun _ _ q => q
    have q' := sp_mrk I.ok q
    cases f with
    | next => obtain ⟨σ2, H2, I2, q2⟩ := q'; exact name_goes I2 hN hi hl fun s3 I3 => ⟨_, H2, I3, q2⟩
    | brk => obtain ⟨σ2, H2, I2, q2⟩ := q'; exact name_goes I2 hN hi hl fun s3 I3 => ⟨_, H2, I3, q2⟩
    | cont => obtain ⟨σ2, H2, I2, q2⟩ := q'; exact name_goes I2 hN hi hl fun s3 I3 => ⟨_, H2, I3, q2⟩
    | ret u => obtain ⟨v2, σ2, H2, I2, rv2, q2⟩ := q'; exact name_goes I2 hN hi hl fun s3 I3 => ⟨v2, _, H2, I3, rv2, q2⟩
  refine wpAny_Try_except (wpAny_mono (hb pins _ _ _ pass [] s σ H F (inv_held I _)
    ⟨r, dl, S, E, rs, ⟨rel.b, fun dl' σ' c H' r' S' x rs' rb q => ⟨c, r', S', dl', rfl, x, rb, rs', q⟩⟩, h, rets_z ret rel⟩) (fun f s1 q => ?_) fun _ _ q => q)
  have q' := sp_unheld I.ok q
  cases f with
  | next => exact wpAny_execs_nil q'
  | brk => exact q'
  | cont => exact q'
  | ret u => exact q'

/-! ### isinstance of a caught exception, where it holds -/
open PySem.W in
theorem inst_yes {K : PySem.W.Frag} {x t c : Value} {G : Heap → Prop} (ty : ∀ (M : Model) (h : Heap), K.In h → G h → Looks M h (typeOf x) t) (e : kitOne K t c = some true) : Answers (fun s => K.In s.heap ∧ G s.heap) x c true := by
  intro dep tk prog w A R s hs
  obtain ⟨h0, g0, d0, t0, o0⟩ := s
  obtain ⟨⟨KX, p⟩, hq⟩ := hs
  have lt := ty (model prog w) h0 KX p
  unfold kitOne at e; unfold Builtin.«isinstance.nested»; refine wpAny_bind (lt.at ?_)
  by_cases q : (t == c) = true
  · rw [if_pos q]
    first
      | ((repeat lk); exact hq t0)
      | exact wpAny_bind (wpAny_rule (hq t0))
      | exact wpAny_bind (wpAny_rule (wpAny_pure (hq t0)))
  · rw [if_neg q] at e ⊢
    obtain ⟨y1, y2, y3⟩ := kit_cls (M := model prog w) KX e
    have li : Looks (model prog w) h0 (isInstance x c) true := lt.andThen y3
    refine wpAny_bind (y1.at ?_)
    rw [if_pos (by decide)]
    k_delta "plainIsInstance"
    refine wpAny_bind (wpAny_bind (y2.at ?_))
    simp only [Bool.false_eq_true, Bool.not_true, if_false]
    refine wpAny_bind (li.at ?_)
    first
      | exact wpAny_pure (wpAny_pure (hq t0))
      | (simp only [if_true]; first | exact wpAny_pure (wpAny_pure (hq t0)) | exact wpAny_pure (hq t0) | exact wpAny_bind (wpAny_pure (wpAny_pure (hq t0))))
/-- the classes at which the answer is yes -/
def dInstX (yes : Addr → Bool) (te : TDE) : TDE := fun dl S Q => te dl S fun d S1 => match d with
  | .exc c => if yes c = true then Q (.bl true) S1 else False
  | _ => False
theorem call_instX {a c : Addr} {cv : Value} {pins : List (Addr × Obj)} {σ : St} {H : Hp} {s : Shared} {Q : Value → Shared → Prop} {E : Value → Shared → Prop} (I : Inv X pins σ H s) (h : H a = some (isX a c)) (e : PySem.W.kitOne X.K (.ref c) cv = some true) (q : ∀ tk, Q (.bool true) { s with toks := tk }) :
    wpAny (model X.prog X.w) X.A (call (.builtin "isinstance") [.ref a, cv]) Q E s := by
  have ob : ∃ o, s.heap.get? a = some o ∧ o.cls = .ref c := (I.hok a _ h).1
  exact call_isinstance (S := fun _ R s => (X.K.In s.heap ∧ (∃ o, s.heap.get? a = some o ∧ o.cls = .ref c)) ∧ ∀ tk, R (.ok (.ret (.bool true))) { s with toks := tk })
    (fun prog w A R s hs => isinstance_outer (inst_yes (G := fun h => ∃ o, h.get? a = some o ∧ o.cls = .ref c) (fun M h _ ⟨o, h1, h2⟩ => h2 ▸ (PySem.W.Looks.ld h1).andThen .now) e 0 _ prog w A R s hs) (fun z => nomatch z)) ⟨⟨I.kIn, ob⟩, q⟩
def rInstX (K : PySem.W.Frag) (vc : V) (cv : Value) : List V → Hp → VK → Prop := fun xs H Qv => ∃ a c, xs = [.ref a, vc] ∧ H a = some (isX a c) ∧ PySem.W.kitOne K (.ref c) cv = some true ∧ Qv (.bl true) H
theorem callr_instX {vc : V} {cv : Value} (hv : ∀ u, RelV vc u → u = cv) : CallR X (.builtin "isinstance") (rInstX X.K vc cv) := by
  intro pins s σ H xs us Q I rv h
  obtain ⟨a, c, rfl, h1, h2, q⟩ := h
  obtain ⟨u, w', rfl, r1, r2⟩ := vals2 rv
  cases r1
  have e := hv w' r2
  subst e
  exact call_instX I h1 h2 fun tk => ⟨.bl true, H, I.tok tk, rfl, q⟩
/-- .. of a built-in class -/
theorem pd_instXT {e : Expr} {te : TDE} {y : Str} {T : String} {p p2 pos : Pos} {yes : Addr → Bool} (hy : ∀ c, yes c = true → PySem.W.kitOne X.K (.ref c) (.type T) = some true) (hg : Gl X "isinstance") (hm : X.mg "isinstance" = none) (hg2 : Gl X y) (hm2 : X.mg y = none) (hv2 : bootBuiltins y = some (.type T)) (ha : PD X Z e te)
    (hv : bootBuiltins "isinstance" = some (.builtin "isinstance") := by exact PyProof.Rows.Boot.«isinstance»)
    (hn2 : y ≠ "__name__" := by decide) (hd2 : (y == ("__debug__" : Str)) = false := by decide) (he2 : starEach [e, .Name y p2] X.env = (false, eval e X.env) :: starEach [.Name y p2] X.env := by rfl)
    (he3 : starEach [.Name y p2] X.env = (false, eval (.Name y p2) X.env) :: starEach [] X.env := by rfl) (hpl : (backTo pos (starEach [.Name y p2] X.env)).any (·.1) = false := by rfl) :
    PD X Z (.Call (.Name "isinstance" p) [e, .Name y p2] [] pos) (dInstX yes te) :=
  PEimp (pe_callB (callr_instX (vc := .ty T) (cv := .type T) fun u r => r) hg hm hv (pa_cons ha (pa_cons (pe_bltn (v := .ty T) hg2 hm2 hv2 rfl hn2 hd2) pa_nil he3) he2) (by decide) (by decide) he2 hpl) fun σ H Qv ⟨r, dl, S, Q, rs, rel, h, ret⟩ =>
    ⟨r, dl, S, _, rs, rel, h, fun v H1 r1 d S1 e1 rel1 p1 h1 => by
      cases p1 with
      | @exc c a hx =>
        obtain ⟨h2, h3⟩ := ite_of h1
        exact ⟨a, c, rfl, hx, hy c h2, ret _ _ _ _ _ e1 rel1 (.bl _) h3⟩
      | _ => exact (show False from h1).elim⟩
end
end L3

/-! ### the refusals' classes -/
namespace L3
open PySem PySem.Spec PyProof.Rows L2
abbrev VE : List Value := [.type "ValueError", .type "Exception", .type "BaseException", .type "object"]
structure Ec (K : PySem.W.Frag) (mg : Str → Option Value) (x : Str) where
  c : Addr
  xc : Xc K mg x c VE "ValueError.__new__"
def hitOf (a : Addr) : Addr → Bool := fun c => decide (c = a)
theorem hit_of {a : Addr} {P : Addr → Prop} (h : P a) : ∀ c, hitOf a c = true → P c := fun c e => by
  have z : c = a := of_decide_eq_true e
  subst z
  exact h
theorem hit_self (a : Addr) : hitOf a a = true := decide_eq_true rfl
end L3

/-! ### more short words -/
namespace L3
open PySem PySem.Spec PyProof.Rows L2
end L3

/-! ### what a def leaves behind in the store is dropped -/
namespace L3
open PySem PySem.Spec PyProof.Rows L2
/-- refers to the first n objects of the store alone -/
inductive Sco (n : Nat) : D → Prop
  | non : Sco n .non
  | bl (b : Bool) : Sco n (.bl b)
  | int (i : Int) : Sco n (.int i)
  | str (x : Str) : Sco n (.str x)
  | tup {ds : List D} : (∀ d ∈ ds, Sco n d) → Sco n (.tup ds)
  | ref {m : Nat} : m < n → Sco n (.ref m)
  | exc (c : Addr) : Sco n (.exc c)
theorem Rp.sco {r : List Addr} {H : Hp} {d : D} {v : V} (h : Rp r H d v) : Sco r.length d := by
  induction h with
  | non => exact .non
  | bl b => exact .bl b
  | int i => exact .int i
  | str x => exact .str x
  | @tup ds xs a _ l _ ih =>
    refine .tup fun d hd => ?_
    obtain ⟨i, hi, e⟩ := List.mem_iff_getElem.mp hd
    exact ih i d xs[i] (by simp [hi, e]) (by simp [l ▸ hi])
  | ref h => exact .ref (List.getElem?_eq_some_iff.mp h).1
  | exc _ => exact .exc _
theorem Rp.low {r r' : List Addr} {H : Hp} {d : D} {v : V} (h : Rp r' H d v) (low : ∀ m a, m < r.length → r'[m]? = some a → r[m]? = some a) (s : Sco r.length d) : Rp r H d v := by
  induction h with
  | non => exact .non
  | bl b => exact .bl b
  | int i => exact .int i
  | str x => exact .str x
  | tup e l f ih =>
    cases s with
    | tup s => exact .tup e l fun i d v h1 h2 => ih i d v h1 h2 (s d (List.mem_of_getElem? h1))
  | ref h =>
    cases s with
    | ref s => exact .ref (low _ _ s h)
  | exc h => exact .exc h
/-- the objects of S stand in S' too, at their numbers -/
def Pre (S S' : Sto) : Prop := ∀ (n : Nat) (o : Ob), S[n]? = some o → S'[n]? = some o
theorem Pre.refl {S : Sto} : Pre S S := fun _ _ h => h
theorem Pre.push {S S' : Sto} {o : Ob} (h : Pre S S') : Pre S (S' ++ [o]) := fun n u e => by
  have z := h n u e
  rw [List.getElem?_append_left (List.getElem?_eq_some_iff.mp z).1]; exact z
theorem Pre.trans {S S' S2 : Sto} (h : Pre S S') (k : Pre S' S2) : Pre S S2 := fun n o e => k n o (h n o e)
theorem low_of {r r' : List Addr} {H H' : Hp} (e : Ext r r' H H') : ∀ m a, m < r.length → r'[m]? = some a → r[m]? = some a := fun m a hm h => by
  have z : r[m]? = some r[m] := by simp [hm]
  rw [e.adr _ _ z] at h
  rw [z]; exact h
theorem RelB.low {K : PySem.W.Frag} {r r' : List Addr} {S S' : Sto} {H H' : Hp} (h : RelB K r S H) (e : Ext r r' H H') (h' : RelB K r' S' H') (p : Pre S S') : RelB K r S H' := by
  have rl : ∀ {ds : List D} {xs ys : List V}, Rps r H ds xs → Rps r' H' ds ys → Rps r H' ds ys := fun {ds xs ys} a b => ⟨b.1, fun i d v h1 h2 => by
    obtain ⟨v0, _, q⟩ := a.get h1
    exact (b.2 i d v h1 h2).low (low_of e) q.sco⟩
  refine ⟨h.len, fun n a o h1 h2 => ?_, fun n m a xs ys h1 h2 h3 h4 o1 o2 => h'.nd n m a xs ys (e.adr _ _ h1) (e.adr _ _ h2) (p _ _ h3) (p _ _ h4) o1 o2⟩
  have q := h.ob n a o h1 h2
  have q' := h'.ob n a o (e.adr _ _ h1) (p _ _ h2)
  cases o with
  | lst ds =>
    obtain ⟨xs, _, a1⟩ := q
    obtain ⟨ys, b0, b1⟩ := q'
    exact ⟨ys, b0, rl a1 b1⟩
  | frz ds =>
    obtain ⟨xs, _, a1⟩ := q
    obtain ⟨ys, b0, b1⟩ := q'
    exact ⟨ys, b0, rl a1 b1⟩
  | ins C fs =>
    obtain ⟨_, _, _, a1⟩ := q
    obtain ⟨dx, fs', b0, b1⟩ := q'
    exact ⟨dx, fs', b0, b1.1, rl a1.2 b1.2⟩
  | dct kvs =>
    obtain ⟨_, _, a1⟩ := q
    obtain ⟨ks, b0, b1⟩ := q'
    exact ⟨ks, b0, b1.1, rl a1.2 b1.2⟩
def Gc (S : Sto) (Q : DK) : DK := fun d S' => Pre S S' ∧ Sco S.length d ∧ Q d S
def GcX (S : Sto) (ex : Addr → Sto → Prop) : Addr → Sto → Prop := fun c S' => Pre S S' ∧ ex c S
theorem Ret.gc {K : PySem.W.Frag} {Z Z' : Zx} {r : List Addr} {S : Sto} {H : Hp} {Q : DK} {Qv : VK} (h : Ret K Z r H Q Qv) (rel : Rel K Z r S H) : Ret K Z' r H (Gc S Q) Qv := fun v H' r' d S' e rel' p q => by
  obtain ⟨pre, sc, q⟩ := q
  have e' : Ext r r H H' := ⟨fun _ _ z => z, e.tup, e.xc⟩
  rw [← rel.len] at sc
  exact h v H' r d S e' ⟨rel.b.low e rel'.b pre, rel.xw.ext e'⟩ (p.low (low_of e) sc) q
theorem RetX.gc {K : PySem.W.Frag} {ex : Addr → Sto → Prop} {E : XK} {r : List Addr} {S : Sto} {H : Hp} (rel : Rel K (Zc ex E) r S H) : RetX K (Zc (GcX S ex) E) r H := fun dl σ c H' r' S' e _ rb q => by
  obtain ⟨pre, q⟩ := q
  have e' : Ext r r H H' := ⟨fun _ _ z => z, e.tup, e.xc⟩
  exact rel.xw [] [] c H' r S e' ⟨rfl, fun i d z => by simp at z⟩ (rel.b.low e rb pre) q
section
variable {P : Program} {w : World} {K : PySem.W.Frag} {mg : Str → Option Value} {base : Heap}
/-- a promise with the store cut back -/
def gcS (sd : Sd) : Sd := fun ds S Q ex => ∃ Q0 ex0, Q = Gc S Q0 ∧ ex = GcX S ex0 ∧ sd ds S Q0 ex0
theorem fn_gc {CX : CXT} {k : Nat} {f : Addr} {fd : FuncData} {ps : List Str} {sd : Sd} (h : FnOk P w K mg base CX k f fd ps (upF K (gcS sd))) : FnOk P w K mg base CX k f fd ps (upF K sd) := by
  have imp : ∀ vs H Q E, upF K sd vs H Q E → upF K (gcS sd) vs H Q E := fun vs H Qv E ⟨ex, r, S, ds, Q, rel, p, q, ret⟩ =>
    ⟨GcX S ex, r, S, ds, Gc S Q, ⟨rel.b, RetX.gc rel⟩, p, ⟨Q, ex, rfl, rfl, q⟩, ret.gc rel⟩
  obtain ⟨h1, h2⟩ := h
  exact ⟨fun vs H Q E q => h1 vs H Q E (imp vs H Q E q), fun A outer s H args us vs Q E hr e0 hb rv q => h2 A outer s H args us vs Q E hr e0 hb rv (imp vs H Q E q)⟩
end
theorem gcs_len {sd : Sd} {n : Nat} (len : ∀ ds S Q ex, sd ds S Q ex → ds.length = n) : ∀ ds S Q ex, gcS sd ds S Q ex → ds.length = n := fun ds S Q ex h => by
  obtain ⟨Q0, ex0, _, _, h⟩ := h
  exact len _ _ _ _ h
end L3

/-! ### comprehensions -/
namespace L3
open PySem PySem.Spec PyProof.Rows L2
/-- what a comprehension's scope must be: its own name x, the names read from around, which lie in cells there -/
structure CompSc (sc around : Scope) (x : Str) (caps : List Str) : Prop where
  kind : sc.kind = .function
  nocell : ∀ y ∈ sc.names, y.2 ≠ .cell
  own : ∀ y ∈ sc.names, y.2 = .local → sc.names.lookup y.1 = some .local
  loc : sc.names.lookup x = some .local
  cap : ∀ y ∈ caps, sc.names.lookup y = some .free
  out : ∀ y ∈ sc.names, y.2 = .free → around.names.lookup y.1 = some .cell
theorem mem_lookup {α : Type} {y : Str} {v : α} : ∀ {l : List (Str × α)}, l.lookup y = some v → (y, v) ∈ l
  | [], h => by simp at h
  | (n, k) :: r, h => by
    cases e : y == n with
    | true =>
      rw [List.lookup_cons, e] at h
      have z : k = v := Option.some.inj h
      have z2 : y = n := by simpa using e
      rw [z, z2]; exact List.mem_cons_self
    | false =>
      rw [List.lookup_cons, e] at h
      exact List.mem_cons_of_mem _ (mem_lookup h)
/-- the cells of the free names -/
theorem closure_go {env : Env} : ∀ (l : List (Str × NameKind)) (acc : List (Str × Addr)), (∀ y ∈ l, y.2 = .free → ∃ c, env.cells.lookup y.1 = some c) → (∀ x c, acc.lookup x = some c → env.cells.lookup x = some c) →
    ∃ cl, (forIn l acc fun x r => (if (x.2 == NameKind.free) = true then do let a ← cellOf env x.1; pure (ForInStep.yield ((x.1, a) :: r)) else pure (ForInStep.yield r) : Sem (ForInStep (List (Str × Addr))))) = pure cl ∧
      (∀ x c, cl.lookup x = some c → env.cells.lookup x = some c) ∧ (∀ y ∈ l, y.2 = .free → cl.lookup y.1 = env.cells.lookup y.1) ∧ ∀ x c, acc.lookup x = some c → ∃ c', cl.lookup x = some c'
  | [], acc, _, ha => ⟨acc, by simp, ha, fun y hy => (by cases hy), fun x c e => ⟨c, e⟩⟩
  | (n, k) :: r, acc, h, ha => by
    cases hk : (k == NameKind.free) with
    | false =>
      obtain ⟨cl, h1, h2, h3, h4⟩ := closure_go r acc (fun y hy => h y (List.mem_cons_of_mem _ hy)) ha
      refine ⟨cl, ?_, h2, fun y hy hf => ?_, h4⟩
      · rw [List.forIn_cons]; simp [hk]; simpa using h1
      · have hy' := List.mem_cons.mp hy
        rcases hy' with rfl | hy
        · rw [show k = NameKind.free from hf] at hk; exact absurd hk (by decide)
        · exact h3 y hy hf
    | true =>
      have hf : k = NameKind.free := by simpa using hk
      obtain ⟨c, hc⟩ := h (n, k) List.mem_cons_self hf
      obtain ⟨cl, h1, h2, h3, h4⟩ := closure_go r ((n, c) :: acc) (fun y hy => h y (List.mem_cons_of_mem _ hy)) (fun x c' e => by
        cases q : x == n with
        | true =>
          rw [List.lookup_cons, q] at e
          have z : x = n := by simpa using q
          rw [z, hc]; exact e
        | false =>
          rw [List.lookup_cons, q] at e
          exact ha x c' e)
      refine ⟨cl, ?_, h2, fun y hy hf => ?_, fun x c' e => ?_⟩
      · have ec : cellOf env n = pure c := by unfold cellOf; rw [hc]
        rw [List.forIn_cons]; simp [hk, ec]; simpa using h1
      · have hy' := List.mem_cons.mp hy
        rcases hy' with rfl | hy
        · obtain ⟨c', e⟩ := h4 n c (by simp)
          rw [e]; exact (h2 _ _ e).symm
        · exact h3 y hy hf
      · refine h4 x (if x == n then c else c') ?_
        cases q : x == n with
        | true => simp [List.lookup_cons, q]
        | false => simp [List.lookup_cons, q, e]
theorem closure_of {sc : Scope} {env : Env} (h : ∀ y ∈ sc.names, y.2 = .free → ∃ c, env.cells.lookup y.1 = some c) :
    ∃ cl, closureFor sc env = pure cl ∧ (∀ x c, cl.lookup x = some c → env.cells.lookup x = some c) ∧ ∀ y ∈ sc.names, y.2 = .free → cl.lookup y.1 = env.cells.lookup y.1 := by
  obtain ⟨cl, h1, h2, h3, _⟩ := closure_go sc.names [] h (fun x c e => by simp at e)
  refine ⟨cl, ?_, h2, h3⟩
  unfold closureFor
  simp only [bind_pure]
  exact h1
theorem relabel_free {env : Env} : ∀ {names : List (Str × NameKind)} {x : Str}, names.lookup x = some .free →
    (names.map fun (n, k) => if (k == NameKind.free && env.scope.kind == .function && env.kindOf n == some .cell) then (n, NameKind.cell) else (n, k)).lookup x = some .cell ∨
    (names.map fun (n, k) => if (k == NameKind.free && env.scope.kind == .function && env.kindOf n == some .cell) then (n, NameKind.cell) else (n, k)).lookup x = some .free
  | [], _, h => by simp at h
  | (n, k) :: r, x, h => by
    have ih := @relabel_free env r x
    rw [List.map_cons]
    cases hx : x == n with
    | true =>
      rw [List.lookup_cons, hx] at h
      have hk : k = .free := Option.some.inj h
      subst hk
      dsimp only
      split
      · left; simp [List.lookup_cons, hx]
      · right; simp [List.lookup_cons, hx]
    | false =>
      rw [List.lookup_cons, hx] at h
      dsimp only
      split
      · simp only [List.lookup_cons, hx]; exact ih h
      · simp only [List.lookup_cons, hx]; exact ih h
theorem relabel_back {env : Env} : ∀ {names : List (Str × NameKind)} {x : Str}, (∀ y ∈ names, y.2 ≠ .cell) →
    ((names.map fun (n, k) => if (k == NameKind.free && env.scope.kind == .function && env.kindOf n == some .cell) then (n, NameKind.cell) else (n, k)).lookup x = some .cell ∨
    (names.map fun (n, k) => if (k == NameKind.free && env.scope.kind == .function && env.kindOf n == some .cell) then (n, NameKind.cell) else (n, k)).lookup x = some .free) → names.lookup x = some .free
  | [], _, _, h => by simp at h
  | (n, k) :: r, x, hc, h => by
    have ih := @relabel_back env r x fun y hy => hc y (List.mem_cons_of_mem _ hy)
    rw [List.map_cons] at h
    cases hx : x == n with
    | true =>
      rw [List.lookup_cons, hx]
      dsimp only at h
      split at h
      · rename_i q
        simp only [Bool.and_eq_true] at q
        have hk : k = .free := by simpa using q.1.1
        rw [hk]
      · simp only [List.lookup_cons, hx] at h
        rcases h with h | h
        · exact absurd (Option.some.inj h) (hc (n, k) List.mem_cons_self)
        · exact h
    | false =>
      rw [List.lookup_cons, hx]
      dsimp only at h
      split at h
      · simp only [List.lookup_cons, hx] at h; exact ih h
      · simp only [List.lookup_cons, hx] at h; exact ih h
/-- a comprehension's block -/
abbrev Cx.comp (X : Cx) (sc : Scope) (N : List Str) (cl : List (Str × Addr)) (C : Addr) (s0 : Shared) (H0 : Hp) (fp : List Addr) (pn : List (Addr × Obj)) : Cx :=
  { X with N := N, env := compEnvC sc cl C X.env, s₀ := s0, H₀ := H0, outer := X.stack, stack := X.stack, ex := fp, fn := fun _ => false, pn := pn, xe := fun _ _ => False }
/-- the values of the captured names -/
def capS (caps : List Nat) (σ : St) : St := caps.map fun j => (σ[j]?).join
def capD (caps : List Nat) (dl : Ev) : Ev := caps.map fun j => (dl[j]?).join
def tComp (caps : List Nat) (wi : TI) (tc : TT) (te : TE) : TE := fun σ H Q => wi σ H fun J H1 => ∀ D, H1 D = none → ∃ W : Nat → Nat → Hp → Prop, (∃ m, W 0 m (upd H1 D (.lst []))) ∧ ∀ i m H, W i m H →
  (J.stop i H ∧ Q (.ref D) H) ∨ (J.go i H ∧ ∀ x H', J.yld i H x H' → tc (some x :: capS caps σ) H' fun b H2 => if b = true then te (some x :: capS caps σ) H2 fun y H3 => ∃ ys, H3 D = some (.lst ys) ∧ ys.length < sizeLine ∧ ∃ m', m' < m ∧ W (i + 1) m' (upd H3 D (.lst (ys ++ [y])))
    else ∃ m', m' < m ∧ W (i + 1) m' H2)
/-- the tests of one clause -/
def PTs (Y : Cx) (ifs : List Expr) (tc : TT) : Prop := ∀ (pins : List (Addr × Obj)) (s : Shared) (σ : St) (H : Hp) (Q : Bool → Hp → Prop), Inv Y pins σ H s → tc σ H Q →
  wpAny (model Y.prog Y.w) Y.A (forIn ifs true fun c r => if r = true then do let ok ← isTrue c Y.env (eval c Y.env); pure (ForInStep.yield ok) else pure (ForInStep.yield r)) (TP Y pins σ Q) Y.xe s
theorem pts_nil {Y : Cx} : PTs Y [] (fun _ H Q => Q true H) := fun _ _ _ H _ I h => wpAny_tests_nil ⟨H, I, h⟩
section
variable {X : Cx} {pins : List (Addr × Obj)} {σ : St} {H : Hp} {s : Shared}
/-- the block's start -/
theorem inv_comp {sc : Scope} {x : Str} {N : List Str} {caps : List Nat} {cl : List (Str × Addr)} {fp : List Addr} {h1 : Heap} {m : Str → Option Value} {tk : Nat} (I : Inv X pins σ H s) (cs : CompSc sc X.env.scope x N)
    (hN : ∀ (j : Nat) (y : Str), N[j]? = some y → ∃ i, caps[j]? = some i ∧ X.N[i]? = some y) (hlen : caps.length = N.length)
    (c1 : ∀ x c, cl.lookup x = some c → X.env.cells.lookup x = some c) (c2 : ∀ y ∈ sc.names, y.2 = .free → cl.lookup y.1 = X.env.cells.lookup y.1)
    (hf : ∀ b ∈ fp, FpOk X pins H b) (hfo : ∀ b ∈ fp, b < s.heap.objs.size) (hns : h1.Ns s.heap.objs.size m) (hk : ∀ b o, s.heap.get? b = some o → h1.get? b = some o) :
    Inv (Cx.comp X sc (x :: N) cl s.heap.objs.size s H fp (X.pn ++ pins)) [] (none :: capS caps σ) H { s with heap := h1, toks := tk } := by
  have stk : ∀ b ∈ frs X.stack, b = X.env.locals ∨ b ∈ X.fs := fun b hb => List.mem_cons.mp (I.stkSub b hb)
  refine ⟨⟨I.ok.mod, cs.kind, I.ok.glob, I.ok.blt, Nat.le_refl _, fun a b c h1 h2 => I.ok.inj a b c (c1 _ _ h1) (c1 _ _ h2), fun y hy => ?_, fun _ _ z => Bool.noConfusion z, I.ok.hd, I.ok.frames, .inl rfl, fun b hb => ⟨Nat.ne_of_lt (hfo b hb), fun y c e => (hf b hb).2.2.2.2.1 y c (c1 _ _ e)⟩,
    I.bs, Nat.le_trans I.ok.bsz I.sz, fun b o e hb => ?_, fun b hb z => ?_, I.stack, I.stkFree⟩, rfl, I.bare, Un.kept hk, ⟨m, hns, fun i y v e1 e2 e3 => ?_⟩, fun y c e => ?_, I.hok.fresh (Nat.le_refl _), fun y c e => I.freeC y c (c1 _ _ e), fun p hp => ?_, I.hok.kept hk, ?_⟩
  · have hfr : sc.names.lookup y = some .free := relabel_back cs.nocell hy
    have hm := mem_lookup hfr
    obtain ⟨c, e⟩ := I.ok.has y (.inl (cs.out _ hm rfl))
    exact ⟨c, (c2 _ hm rfl).trans e⟩
  · rcases (hf b hb).2.2.2.1 with z | z
    · exact I.ok.noex b o e z
    · exact absurd (Nat.lt_of_lt_of_le (Heap.lt_size (I.ok.bs b o e).1) z) (Nat.lt_irrefl _)
  · rcases stk b z with z | z
    · exact (hf b hb).2.1 z
    · exact (hf b hb).2.2.1 z
  · cases i with
    | zero => simp at e2
    | succ i =>
      have e1' : N[i]? = some y := by simpa using e1
      obtain ⟨j, hj, hy⟩ := hN i y e1'
      have e2' : σ[j]? = some (some v) := by
        simp only [List.getElem?_cons_succ, capS, List.getElem?_map, hj, Option.map_some, Option.some.injEq] at e2
        cases q : σ[j]? with
        | none => rw [q] at e2; cases e2
        | some o => rw [q] at e2; simp at e2; rw [e2]
      have hfr : sc.names.lookup y = some .free := cs.cap y (List.mem_of_getElem? e1')
      have hm := mem_lookup hfr
      have hce : X.env.scope.names.lookup y = some .cell := cs.out _ hm rfl
      obtain ⟨m0, _, hl⟩ := I.loc
      obtain ⟨u, r, l⟩ := hl j y v hy e2' (.inr (.inl hce))
      refine ⟨u, r, .inr ⟨relabel_free hfr, ?_⟩⟩
      rcases l with ⟨k, _⟩ | ⟨_, c, ec, hcell⟩
      · rw [show X.env.kindOf y = some .cell from hce] at k; cases k
      · exact ⟨c, (c2 _ hm rfl).trans ec, hcell.keeps hk⟩
  · obtain ⟨v, z⟩ := I.cell y c (c1 _ _ e)
    exact ⟨v, z.keeps hk⟩
  · have hp' : p ∈ X.pn ++ pins := by simpa using hp
    obtain ⟨p1, p2, p3, p4, p5⟩ := I.pin p hp'
    refine ⟨hk _ _ p1, p2, Nat.ne_of_lt (Heap.lt_size p1), fun z => ?_, p5⟩
    rcases stk _ z with z | z
    · exact p3 z
    · exact p4 z
  · simp [capS, hlen]
end
section
variable {X : Cx} {elt iter : Expr} {x : Str} {px pos : Pos} {ifs : List Expr} {sc : Scope} {N : List Str} {caps : List Nat} {wi : TI} {tc : TT} {te : TE}
/-- what is known behind the block: the frame as before, the block's own record C -/
structure CompEnd (X : Cx) (pins : List (Addr × Obj)) (σ : St) (C : Addr) (Q : VK) (D : Addr) (s' : Shared) : Prop where
  q : ∃ H', Inv X pins σ H' s' ∧ Q (.ref D) H' ∧ H' C = none
  ns : ∃ m, s'.heap.Ns C m
  loc : C ≠ X.env.locals
  old : X.s₀.heap.objs.size ≤ C
  cell : ∀ x c, X.env.cells.lookup x = some c → c ≠ C
  pin : ∀ p ∈ X.pn ++ pins, p.1 ≠ C
theorem comp_core {use : Option (Value → Sem Unit)} {Qr : Value → Shared → Prop} (hc : X.calm = true) (cs : CompSc sc X.env.scope x N) (hN : ∀ (j : Nat) (y : Str), N[j]? = some y → ∃ i, caps[j]? = some i ∧ X.N[i]? = some y) (hlen : caps.length = N.length) (hnd : (x :: N).Nodup)
    (hi : PI X (.Name x px) iter wi) (ht : ∀ cl C s0 H0 fp pn, PTs (Cx.comp X sc (x :: N) cl C s0 H0 fp pn) ifs tc) (he : ∀ cl C s0 H0 fp pn, PE (Cx.comp X sc (x :: N) cl C s0 H0 fp pn) elt te)
    (hs : ∀ y, foldedSetIterable iter X.env y = pure y)
    {pins : List (Addr × Obj)} {s : Shared} {σ : St} {H : Hp} {Q : VK} {p2 : Pos} (I : Inv X pins σ H s) (h : tComp caps wi tc te σ H Q)
    (fin : ∀ D C s', CompEnd X pins σ C Q D s' → compPost (model X.prog X.w) X.A X.xe use Qr (.ref D) C (.ok .next) s') :
    wpAny (model X.prog X.w) X.A (comprehension (.ListComp elt [⟨.Name x px, iter, ifs, 0⟩] sc pos) sc X.env p2 (newList []) false (eval iter X.env) use) Qr X.xe s := by
  obtain ⟨cl, k1, k2, k3⟩ := closure_of (sc := sc) (env := X.env) fun y hy hf => I.ok.has y.1 (.inl (cs.out y hy hf))
  refine wpAny_comprehension_free rfl hs k1 cs.kind cs.own (thn (hi pins s σ H _ I h) fun v s1 h1 => thn h1 fun itv s2 h2 => ?_)
  obtain ⟨it, fp, tn, J, H2, e, I2, T, st2, f2, body⟩ := h2
  subst e
  have hfo : ∀ b ∈ fp, b < s2.heap.objs.size := fun b hb => by
    obtain ⟨o, e, _⟩ := T.obj _ _ st2 b hb
    exact Heap.lt_size e
  have hD : H2 s2.heap.objs.size = none := I2.hok.fresh (Nat.le_refl _)
  obtain ⟨W, ⟨m0, w0⟩, turn⟩ := body _ hD
  refine wpAny_newObj_type ?_
  have I3 : Inv X pins σ (upd H2 s2.heap.objs.size (.lst [])) { s2 with heap := s2.heap.push { cls := .type "list", dict := none, data := .seq ([] : List Value).toArray }, toks := s2.toks } :=
    I2.laid (t' := s2.toks) (fun b u e => Heap.get?_push_of_some _ e) (Nat.le_refl _) ⟨Nat.zero_le _, [], 0, .nil, Heap.get?_push_size _ rfl⟩
  generalize hs3 : ({ s2 with heap := s2.heap.push { cls := .type "list", dict := none, data := .seq ([] : List Value).toArray }, toks := s2.toks } : Shared) = s3 at I3
  have es3 : ({ s2 with heap := s2.heap.push { cls := .type "list", dict := none, data := .seq ([] : List Value).toArray } } : Shared) = s3 := hs3
  try rw [es3]
  have f3 : ∀ b ∈ fp, FpOk X pins (upd H2 s2.heap.objs.size (.lst [])) b := fun b hb => ⟨by rw [upd_ne (Nat.ne_of_lt (hfo b hb))]; exact (f2 b hb).1, (f2 b hb).2⟩
  have up3 : ∀ b o, s2.heap.get? b = some o → s3.heap.get? b = some o := fun b o e => by rw [← hs3]; exact Heap.get?_push_of_some _ e
  have st3 : tn 0 s3.heap := T.keep _ _ _ st2 fun b _ o e => up3 b o e
  have hfo3 : ∀ b ∈ fp, b < s3.heap.objs.size := fun b hb => by
    obtain ⟨o, e, _⟩ := T.obj _ _ st3 b hb
    exact Heap.lt_size e
  refine wpAny_newFunctionEnv cs.nocell (fun y hy => by simp at hy) (fun h4 ns4 sb4 => ?_) cs.kind
  have hk4 : ∀ b o, s3.heap.get? b = some o → h4.get? b = some o := fun b o e => (sb4.2 b (Nat.ne_of_lt (Heap.lt_size e))).trans (Heap.get?_push_of_some _ e)
  have I4 := inv_comp (tk := s3.toks + ([] : List (Str × Value)).length) I3 cs hN hlen k2 k3 f3 hfo3 ns4 hk4
  generalize hs4 : ({ s3 with heap := h4, toks := s3.toks + ([] : List (Str × Value)).length } : Shared) = s4 at I4 ⊢
  have eh4 : s4.heap = h4 := by rw [← hs4]
  have st4 : tn 0 s4.heap := by rw [eh4]; exact T.keep _ _ _ st3 fun b _ o e => hk4 b o e
  have fY : ∀ {H' : Hp}, (∀ b ∈ fp, H' b = none) → ∀ b ∈ fp, FpOk (Cx.comp X sc (x :: N) cl s3.heap.objs.size s3 (upd H2 s2.heap.objs.size (.lst [])) fp (X.pn ++ pins)) [] H' b := fun hn b hb => by
    obtain ⟨_, z2, z3, z4, z5, z6⟩ := f3 b hb
    refine ⟨hn b hb, Nat.ne_of_lt (hfo3 b hb), fun z => ?_, .inl hb, fun y c e => z5 y c (k2 _ _ e), fun p hp => z6 p (by simpa using hp)⟩
    rcases List.mem_cons.mp (I3.stkSub b z) with z | z
    · exact z2 z
    · exact z3 z
  have locY : (Cx.comp X sc (x :: N) cl s3.heap.objs.size s3 (upd H2 s2.heap.objs.size (.lst [])) fp (X.pn ++ pins)).env.scope.names.lookup x = some .local := lookup_relabel_local cs.loc
  have loop : codeAny (model X.prog X.w) X.A (.compLoop (.ListComp elt [⟨.Name x px, iter, ifs, 0⟩] sc pos) 0 (.ref it) (.ref s2.heap.objs.size) (compEnvC sc cl s3.heap.objs.size X.env))
      (compPost (model X.prog X.w) X.A X.xe use Qr (.ref s2.heap.objs.size) s3.heap.objs.size) s4 := by
    refine codeAny_compLoop_tests (fun n s' => ∃ i o H', Inv (Cx.comp X sc (x :: N) cl s3.heap.objs.size s3 (upd H2 s2.heap.objs.size (.lst [])) fp (X.pn ++ pins)) [] (o :: capS caps σ) H' s' ∧ tn i s'.heap ∧ (∀ b ∈ fp, H' b = none) ∧ W i n H') ?_ m0
      ⟨0, none, _, I4, st4, fun b hb => (f3 b hb).1, w0⟩
    rintro n s5 ⟨i, o, H5, I5, st5, fr5, w5⟩
    rcases turn i n H5 w5 with ⟨stop, q⟩ | ⟨go, step⟩
    · refine thn (T.done (Cx.comp X sc (x :: N) cl s3.heap.objs.size s3 (upd H2 s2.heap.objs.size (.lst [])) fp (X.pn ++ pins)) rfl rfl rfl hc i [] s5 _ H5 _ I5 (fY fr5) st5 stop) fun r s6 ⟨hr, I6⟩ => ?_
      subst hr
      refine fin _ _ _ ⟨⟨H5, I3.call' I6.os I6.base I6.hok I6.bare (fun b hb => ?_), q, I6.free⟩, ?_, Nat.ne_of_gt I3.lt, I3.sz, fun y c e z => ?_, fun p hp z => ?_⟩
      · obtain ⟨_, z2, z3, z4, z5, z6⟩ := f3 b hb
        exact ⟨z4, z2, z5, z6⟩
      · obtain ⟨m, hm, _⟩ := I6.loc
        exact ⟨m, hm⟩
      · obtain ⟨v, hv⟩ := I3.cell y c e
        exact absurd (z ▸ hv.lt) (Nat.lt_irrefl _)
      · exact absurd (z ▸ Heap.lt_size (I3.pin p hp).1) (Nat.lt_irrefl _)
    · refine thn (T.item (Cx.comp X sc (x :: N) cl s3.heap.objs.size s3 (upd H2 s2.heap.objs.size (.lst [])) fp (X.pn ++ pins)) rfl rfl rfl hc i [] s5 _ H5 _ I5 (fY fr5) st5 go) fun r s6 ⟨u, hr, h6⟩ => ?_
      subst hr
      show wpAny _ _ (letOwnedTupleGo (.Name x px) (.ref it) u >>= fun _ => assign (.Name x px) (compEnvC sc cl s3.heap.objs.size X.env) u) _ _ s6
      refine wpAny_bind (thn h6 fun _ s7 ⟨y, H7, I7, r7, y7, st7, fr7⟩ => ?_)
      have I7' := I7.pinned (fY fr7) (T.obj _ _ st7)
      refine wpAny_mono (pg_name (X := Cx.comp X sc (x :: N) cl s3.heap.objs.size s3 (upd H2 s2.heap.objs.size (.lst [])) fp (X.pn ++ pins)) (pos := px) hnd (i := 0) rfl (.inl locY) (.inr locY) _ s7 _ H7 y u (fun σ8 H8 => σ8 = some y :: capS caps σ ∧ H8 = H7) I7' r7 ⟨rfl, rfl⟩) (fun _ s8 ⟨σ8, H8, I8, e8, e8'⟩ => ?_) fun _ _ z => z.elim
      subst e8
      subst e8'
      have stay : ∀ {H' : Hp} {s' : Shared}, Inv (Cx.comp X sc (x :: N) cl s3.heap.objs.size s3 (upd H2 s2.heap.objs.size (.lst [])) fp (X.pn ++ pins)) ([] ++ pinsAt fp s7.heap) (some y :: capS caps σ) H' s' → ∀ m', m' < n → W (i + 1) m' H' →
          ∃ m, m < n ∧ ∃ i o H', Inv (Cx.comp X sc (x :: N) cl s3.heap.objs.size s3 (upd H2 s2.heap.objs.size (.lst [])) fp (X.pn ++ pins)) [] (o :: capS caps σ) H' s' ∧ tn i s'.heap ∧ (∀ b ∈ fp, H' b = none) ∧ W i m H' := fun {H' s'} J m' hm w' => by
        refine ⟨m', hm, i + 1, some y, H', J.unpinned, T.keep _ _ _ st7 fun b hb o e => (J.pin (b, o) (List.mem_append_right _ (List.mem_append_right _ (mem_pinsAt hb e)))).1, fun b hb => ?_, w'⟩
        obtain ⟨o, e, d⟩ := T.obj _ _ st7 b hb
        exact (J.pin (b, o) (List.mem_append_right _ (List.mem_append_right _ (mem_pinsAt hb e)))).2.1
      refine wpAny_mono (ht _ _ _ _ _ _ _ s8 _ H8 _ I8 (step y H8 y7)) (fun b s9 ⟨H9, I9, q9⟩ => ?_) fun _ _ z => z.elim
      cases b with
      | false =>
        rw [if_neg Bool.false_ne_true] at q9 ⊢
        obtain ⟨m', hm, w9⟩ := q9
        exact stay I9 m' hm w9
      | true =>
        rw [if_pos rfl] at q9 ⊢
        refine wpAny_mono (he _ _ _ _ _ _ _ s9 _ H9 _ I9 q9) (fun u2 s10 ⟨z, H10, I10, r10, q10⟩ => ?_) fun _ _ z => z.elim
        obtain ⟨ys, hD10, hlt, m', hm, w10⟩ := q10
        refine wpAny_mono (mt_append (X := (Cx.comp X sc (x :: N) cl s3.heap.objs.size s3 (upd H2 s2.heap.objs.size (.lst [])) fp (X.pn ++ pins))) _ s10 _ H10 (.ref s2.heap.objs.size) [z] (.ref s2.heap.objs.size) [u2] (fun _ H' => H' = upd H10 s2.heap.objs.size (.lst (ys ++ [z]))) I10 rfl (.cons r10 .nil) ⟨_, ys, z, rfl, rfl, hD10, hlt, rfl⟩) (fun _ s11 ⟨_, H11, I11, _, e11⟩ => ?_) fun _ _ z => z.elim
        subst e11
        exact stay I11 m' hm w10
  exact codeAny_compStart_list loop (T.self _ 0 s4 _ _ st4 loop)
theorem caps_of {X : Cx} {caps : List Nat} {N : List Str} (h : caps.map (fun i => X.N[i]?) = N.map some) : (∀ (j : Nat) (y : Str), N[j]? = some y → ∃ i, caps[j]? = some i ∧ X.N[i]? = some y) ∧ caps.length = N.length := by
  refine ⟨fun j y e => ?_, by simpa using congrArg List.length h⟩
  have z : (caps.map (fun i => X.N[i]?))[j]? = some (some y) := by rw [h, List.getElem?_map, e]; rfl
  rw [List.getElem?_map] at z
  cases q : caps[j]? with
  | none => rw [q] at z; cases z
  | some i => rw [q] at z; exact ⟨i, rfl, by simpa using z⟩
theorem pe_comp (hc : X.calm = true) (cs : CompSc sc X.env.scope x N) (hN : caps.map (fun i => X.N[i]?) = N.map some) (hnd : (x :: N).Nodup)
    (hi : PI X (.Name x px) iter wi) (ht : ∀ cl C s0 H0 fp pn, PTs (Cx.comp X sc (x :: N) cl C s0 H0 fp pn) ifs tc) (he : ∀ cl C s0 H0 fp pn, PE (Cx.comp X sc (x :: N) cl C s0 H0 fp pn) elt te)
    (hs : ∀ y, foldedSetIterable iter X.env y = pure y := by intro _; rfl) : PE X (.ListComp elt [⟨.Name x px, iter, ifs, 0⟩] sc pos) (tComp caps wi tc te) := by
  intro pins s σ H Q I h
  rw [eval_ListComp]
  refine comp_core (use := none) hc cs (caps_of hN).1 (caps_of hN).2 hnd hi ht he hs I h fun D C s' f => ?_
  obtain ⟨⟨H', I', q, hC⟩, ⟨m, ns⟩, l, o, c, p⟩ := f
  exact ⟨m, ns, fun h' sb => ⟨.ref D, H', I'.turned (t' := s'.toks) (fun b ob hb e => (sb.2 b hb).trans e) hC l (.inr o) c p, rfl, q⟩⟩
end

/-! ### .. over plain data -/
section
variable {X : Cx} {Z : Zx} {elt iter : Expr} {x : Str} {px pos : Pos} {ifs : List Expr} {sc ar : Scope} {N : List Str} {caps : List Nat}
theorem rs_caps {r : List Addr} {H : Hp} {dl : Ev} {σ : St} {d : D} {v : V} (h : Rs r H dl σ) (p : Rp r H d v) : Rs r H (some d :: capD caps dl) (some v :: capS caps σ) := by
  refine ⟨by simp [capD, capS], fun i e hi => ?_⟩
  cases i with
  | zero => simp at hi; subst hi; exact ⟨v, rfl, p⟩
  | succ i =>
    simp only [List.getElem?_cons_succ, capD, List.getElem?_map] at hi
    cases q : caps[i]? with
    | none => rw [q] at hi; cases hi
    | some j =>
      rw [q] at hi
      simp only [Option.map_some, Option.some.injEq] at hi
      have hj : dl[j]? = some (some e) := by
        cases q2 : dl[j]? with
        | none => rw [q2] at hi; cases hi
        | some o => rw [q2] at hi; simp at hi; rw [hi]
      obtain ⟨w, h1, h2⟩ := h.2 j e hj
      refine ⟨w, ?_, h2⟩
      simp only [List.getElem?_cons_succ, capS, List.getElem?_map, q, Option.map_some, h1, Option.join_some]
def PDTs (Y : Cx) (ifs : List Expr) (t : TDT) : Prop := PTs Y ifs (upT Y.K Z0 t)
def dYes : TDT := fun _ S Q => Q true S
theorem pdts_nil {Y : Cx} : PDTs Y [] dYes := fun pins s σ H Qb I ⟨r, dl, S, Q, rs, rel, q, ret⟩ => pts_nil pins s σ H Qb I (ret true H r S Ext.refl rel q)
/-- one turn: the item d comes; the new list has the number k in the store -/
def dTurn (caps : List Nat) (tc : TDT) (te : TDE) (k : Nat) (dl : Ev) (d : D) (S : Sto) (nx : Sto → Prop) : Prop :=
  tc (some d :: capD caps dl) S fun b S1 => if b = true then te (some d :: capD caps dl) S1 fun y S2 => match S2[k]? with
    | some (.lst ys) => ys.length < 1000 ∧ nx (S2.set k (.lst (ys ++ [y])))
    | _ => False
  else nx S1
@[irreducible] def dComp (caps : List Nat) (tl : TDE) (tc : TDT) (te : TDE) : TDE := fun dl S Q => tl dl S fun d S1 => match d with
  | .ref n => (lAt S1 n).isSome = true ∧ ∃ W : Nat → Nat → Sto → Prop, (∃ m, W 0 m (S1 ++ [.lst []])) ∧ ∀ k m S2, W k m S2 → match lAt S2 n with
    | some o => match (itemsOf o)[k]? with
      | some y => dTurn caps tc te S1.length dl y S2 fun S3 => ∃ m', m' < m ∧ W (k + 1) m' S3
      | none => Q (.ref S1.length) S2
    | none => False
  | _ => False
@[irreducible] def dCompR (caps : List Nat) (ta : TDA) (tc : TDT) (te : TDE) : TDE := fun dl S Q => ta dl S fun ds S1 => match ds with
  | [.int j] => (-(2 ^ 62) ≤ j ∧ j < 2 ^ 62) ∧ ∃ W : Nat → Sto → Prop, W 0 (S1 ++ [.lst []]) ∧ ∀ k S2, W k S2 →
      if k < j.toNat then dTurn caps tc te S1.length dl (.int k) S2 fun S3 => W (k + 1) S3 else Q (.ref S1.length) S2
  | _ => False
/-- one turn, lifted -/
theorem up_turn {tc : TDT} {te : TDE} {r2 : List Addr} {H2 : Hp} {S1 S2 : Sto} {dl : Ev} {σ : St} {D0 : Addr} {d : D} {v : V} {nx : Sto → Prop} {Nx : Hp → Prop} (rs : Rs r2 H2 dl σ) (ha : r2[S1.length]? = some D0) (rb : RelB X.K r2 S2 H2) (p : Rp r2 H2 d v)
    (h : dTurn caps tc te S1.length dl d S2 nx) (hn : ∀ r' S' H', Ext r2 r' H2 H' → RelB X.K r' S' H' → nx S' → Nx H') :
    upT X.K Z0 tc (some v :: capS caps σ) H2 fun b H3 => if b = true then up X.K Z0 te (some v :: capS caps σ) H3 fun y H4 => ∃ ys, H4 D0 = some (.lst ys) ∧ ys.length < sizeLine ∧ Nx (upd H4 D0 (.lst (ys ++ [y]))) else Nx H3 := by
  have rsY : Rs r2 H2 (some d :: capD caps dl) (some v :: capS caps σ) := rs_caps rs p
  refine ⟨r2, _, S2, _, rsY, ⟨rb, fun _ _ _ _ _ _ _ _ _ z => z.elim⟩, h, fun b H3 r3 S3 x3 rel3 q3 => ?_⟩
  cases b with
  | false => rw [if_neg Bool.false_ne_true] at q3 ⊢; exact hn r3 S3 H3 x3 rel3.b q3
  | true =>
    rw [if_pos rfl] at q3 ⊢
    refine ⟨r3, _, S3, _, rsY.ext x3, rel3, q3, fun z H4 r4 dz S4 x4 rel4 p4 q4 => ?_⟩
    split at q4
    · rename_i ys eys
      obtain ⟨hl, q4⟩ := q4
      have ha4 : r4[S1.length]? = some D0 := x4.adr _ _ (x3.adr _ _ ha)
      obtain ⟨zs, hD4, pz⟩ := rel4.b.ob _ _ _ ha4 eys
      obtain ⟨rel5, x5⟩ := rel4.b.set ha4 eys (pz.snoc p4)
      exact ⟨zs, hD4, by rw [← pz.1]; exact small1000 (Nat.le_of_lt hl), hn r4 _ _ (x3.trans (x4.trans x5)) rel5 q4⟩
    · exact q4.elim
theorem last_at {r : List Addr} {D0 : Addr} {n : Nat} (h : r.length = n) : (r ++ [D0])[n]? = some D0 := by subst h; simp
/-! ### append, list(..), all, any -/
@[irreducible] def dApp (to te : TDE) : TDE := fun dl S Q => to dl S fun x S1 => match x with
  | .ref n => match S1[n]? with
    | some (.lst _) => te dl S1 fun y S2 => match S2[n]? with
      | some (.lst xs) => if xs.length < 1000 then Q .non (S2.set n (.lst (xs ++ [y]))) else False
      | _ => False
    | _ => False
  | _ => False
theorem pd_append {o e : Expr} {to te : TDE} {apos cpos : Pos} (ho : PD X Z o to) (he : PD X Z e te) (hbase : attributeBase o "append" X.env (eval o X.env) = eval o X.env := by rfl)
    (hfew : ((backTo cpos (starEach [e] X.env)).all (fun x => !x.1) && (backToKw cpos (keywordEach [] X.env)).all (fun x => x.1.isSome)
      && decide (([e] : List Expr).length + ([] : List Keyword).length + (if ([] : List Keyword).isEmpty then 0 else 1) < 30)) = true := by rfl)
    (hline : (apos.endLine == cpos.line) = true := by rfl) (hst : starEach [e] X.env = [(false, eval e X.env)] := by rfl) :
    PD X Z (.Call (.Attribute o "append" apos) [e] [] cpos) (dApp to te) :=
  PEimp (pe_bm PySem.F.plainAttrs_list PySem.F.slot_list_append PySem.F.type_list_append mt_append ho (pa_cons he pa_nil hst) hbase hfew hline hst rfl) fun σ H Qv h => by
    obtain ⟨r, dl, S, Q, rs, rel, h, ret⟩ := h
    unfold dApp at h
    refine ⟨r, dl, S, _, rs, rel, h, fun v H1 r1 d S1 x1 rel1 p1 h1 => ?_⟩
    cases p1 with
    | @ref n a hn =>
      dsimp only at h1
      split at h1
      · rename_i xs0 e0
        obtain ⟨a', ha, ob⟩ := rel1.at e0
        rw [hn] at ha; cases ha
        obtain ⟨ys, hH, _⟩ := ob
        refine ⟨.inl ⟨rfl, ys, SqL.of hH⟩, r1, dl, S1, _, rs.ext x1, rel1, h1, fun v2 H2 r2 d2 S2 x2 rel2 p2 h2 => ?_⟩
        split at h2
        · rename_i xs1 e1
          obtain ⟨hlt, h2⟩ := ite_of h2
          have ha2 := x2.adr n a hn
          obtain ⟨zs, hH2, pz⟩ := rel2.b.ob n a _ ha2 e1
          obtain ⟨rel3, x3⟩ := rel2.set ha2 e1 (pz.snoc p2)
          exact ⟨a, zs, v2, rfl, rfl, hH2, by rw [← pz.1]; exact small1000 (Nat.le_of_lt hlt), ret .non _ r2 .non _ (x1.trans (x2.trans x3)) rel3 .non h2⟩
        · exact h2.elim
      · exact h1.elim
    | _ => exact (show False from h1).elim
def wList : WC := fun ds S Q => match ds with
  | [.tup xs] => Q (.ref S.length) (S ++ [.lst xs])
  | [.ref n] => match lAt S n with
    | some o => Q (.ref S.length) (S ++ [.lst (itemsOf o)])
    | none => False
  | _ => False
def boolsOf : List D → Option (List Bool)
  | [] => some []
  | .bl b :: r => (boolsOf r).map (b :: ·)
  | _ :: _ => none
def wAll (g : List Bool → Bool) : WC := fun ds S Q => match ds with
  | [.ref n] => match lAt S n with
    | some o => match boolsOf (itemsOf o) with
      | some bs => Q (.bl (g bs)) S
      | none => False
    | none => False
  | _ => False
theorem bools_items {r : List Addr} {H : Hp} : ∀ {ds : List D} {bs : List Bool} {vs : List V} {us : List Value}, boolsOf ds = some bs → Rps r H ds vs → Vals vs us → us = bs.map Value.bool
  | [], bs, vs, us, e, p, q => by
    have z := p.unnil
    subst z
    cases q
    simp [boolsOf] at e
    subst e
    rfl
  | d :: ds, bs, vs, us, e, p, q => by
    obtain ⟨v, vs', rfl, p1, p2⟩ := p.uncons
    cases d with
    | bl b =>
      cases p1
      cases q with
      | cons q1 q2 =>
        have q1' : _ = Value.bool b := q1
        subst q1'
        simp only [boolsOf, Option.map_eq_some_iff] at e
        obtain ⟨ms, e1, rfl⟩ := e
        rw [bools_items e1 p2 q2]
        rfl
    | _ => simp [boolsOf] at e
theorem range_all {bs : List Bool} : (List.range bs.length).all (fun i => bs.getD i false) = bs.all id := by
  rw [Bool.eq_iff_iff]
  rw [List.all_eq_true, List.all_eq_true]
  refine ⟨fun h b hb => ?_, fun h i hi => ?_⟩
  · obtain ⟨i, hi, e⟩ := List.mem_iff_getElem.mp hb
    have hb' := h i (List.mem_range.mpr hi)
    simpa [hi, e] using hb'
  · have hi' : i < bs.length := List.mem_range.mp hi
    have := h bs[i] (List.getElem_mem hi')
    simpa [hi'] using this
theorem truth_bools {prog : Program} {w : World} {A : Around} {bs : List Bool} : TruthOf prog w A (fun i v => (bs.map Value.bool).toArray[i]? = some v) fun i => bs.getD i false := fun i v s Q E hP hQ => by
  have e : (bs.map Value.bool)[i]? = some v := by simpa using hP
  rw [List.getElem?_map] at e
  cases q : bs[i]? with
  | none =>
   rw [q] at e
   cases e
  | some b =>
    rw [q] at e
    have z : Value.bool b = v := by simpa using e
    subst z
    have z2 : bs.getD i false = b := by simp [List.getD_eq_getElem?_getD, q]
    have hQ' : Q (bs.getD i false) s := hQ
    rw [z2] at hQ'
    exact wpAny_truthy_bool hQ'
theorem iter_bools {n : Nat} {a : Addr} {o : Ob} {bs : List Bool} {pins : List (Addr × Obj)} {σ : St} {H : Hp} {s : Shared} {r : List Addr} {S : Sto} {Q : DK} {Qv : VK} {E : Value → Shared → Prop} {g : List Bool → Bool} (G : List Nat → (Nat → Bool) → Bool)
    (hG : G (List.range bs.length) (fun i => bs.getD i false) = g bs) (hc : X.calm = true) (I : Inv X pins σ H s) (rel : Rel X.K Z r S H) (hn : r[n]? = some a) (eo : lAt S n = some o) (eb : boolsOf (itemsOf o) = some bs) (q : Q (.bl (g bs)) S) (ret : Ret X.K Z r H Q Qv) :
    wpAny (model X.prog X.w) X.A.in1 (pyIter (.ref a)) (fun it s₂ => ∃ I fp wr n P' St tr, it = .ref I ∧ Walks X.prog X.w X.A.in1 I fp wr n P' St ∧ St 0 s₂.heap ∧ TruthOf X.prog X.w X.A.in1 P' tr ∧
      ∀ h' tk, (∀ b o, b ∉ wr → s₂.heap.get? b = some o → h'.get? b = some o) → EP X pins σ Qv (.bool (G (List.range n) tr)) { s₂ with heap := h', toks := tk }) E s := by
  obtain ⟨eo, eL⟩ := lAt_some eo
  obtain ⟨a', ha, ob⟩ := rel.at eo
  rw [hn] at ha; cases ha
  obtain ⟨ys, sq, pr⟩ := ob.list eL
  obtain ⟨its, ri, pl, hz⟩ := I.list sq
  have eits := bools_items eb pr ri
  subst eits
  refine wpAny_pyIter_list pl.isList ?_
  have hne : a ≠ s.heap.objs.size := Nat.ne_of_lt (by
    obtain ⟨ob, e, _⟩ := pl.isList
    exact Heap.lt_size e)
  refine ⟨s.heap.objs.size, _, _, _, _, _, fun i => bs.getD i false, rfl, Walks.list (show X.A.in1.handled = none from I.ok.hd hc) _ a hne (bs.map Value.bool).toArray, ⟨⟨_, Heap.get?_push_size _ rfl, rfl, rfl⟩, pl.isList.at fun o e => Heap.get?_push_of_some _ e⟩, truth_bools, fun h' tk hk => ?_⟩
  have ez : (bs.map Value.bool).toArray.size = bs.length := by simp
  rw [ez, hG]
  refine ⟨.bl (g bs), H, I.kept fun b o e => hk b o (fun z => ?_) (Heap.get?_push_of_some _ e), rfl, ret _ _ _ _ _ Ext.refl rel (.bl _) q⟩
  have z' : b = s.heap.objs.size := by simpa using z
  exact absurd (z' ▸ Heap.lt_size e) (Nat.lt_irrefl _)
theorem all_any {id : String} {g : List Bool → Bool} (rule : ∀ (pins : List (Addr × Obj)) (σ : St) (H : Hp) (s : Shared) (r : List Addr) (S : Sto) (Q : DK) (Qv : VK) (n : Nat) (a : Addr) (o : Ob) (bs : List Bool), Inv X pins σ H s → Rel X.K Z r S H → r[n]? = some a → lAt S n = some o → boolsOf (itemsOf o) = some bs →
      Q (.bl (g bs)) S → Ret X.K Z r H Q Qv → wpAny (model X.prog X.w) X.A (call (.builtin id) [.ref a]) (EP X pins σ Qv) X.xe s) : CallR X (.builtin id) (upC X.K Z (wAll g)) := by
  intro pins s σ H xs us Qv I rv h
  obtain ⟨r, S, ds, Q, rel, ps, q, ret⟩ := h
  unfold wAll at q
  split at q
  · rename_i n
    obtain ⟨v, vs, rfl, p1, p2⟩ := ps.uncons
    have z := p2.unnil
    subst z
    split at q
    · rename_i o eo
      split at q
      · rename_i bs eb
        cases p1 with
        | ref h1 =>
          obtain ⟨u, rfl, ru⟩ := vals1 rv
          cases ru
          exact rule pins σ H s r S Q Qv n _ o bs I rel h1 eo eb q ret
      · exact q.elim
    · exact q.elim
  · exact q.elim
theorem dc_all (hc : X.calm = true) : CallR X (.builtin "all") (upC X.K Z (wAll fun bs => bs.all id)) :=
  all_any fun _ _ _ _ _ _ _ _ _ _ _ _ I rel h1 eo eb q ret => call_all_walk (iter_bools (g := fun bs => bs.all id) (fun l f => l.all f) range_all hc I rel h1 eo eb q ret)
/-! ### words for readings -/
/-- the same reading, left as it stands -/
@[irreducible] def irr (w : WC) : WC := w
@[irreducible] def irr2 (w : W2) : W2 := w
theorem irr_eq (w : WC) : irr w = w := by unfold irr; rfl
theorem irr2_eq (w : W2) : irr2 w = w := by unfold irr2; rfl
theorem dc_irr {f : Value} {w : WC} (h : CallR X f (upC X.K Z w)) : CallR X f (upC X.K Z (irr w)) := by rw [irr_eq]; exact h
theorem pd_ixV {a b : Expr} {ta tb : TDE} (ha : PD X Z a ta) (hb : PD X Z b tb) (hs : PlainIx b) : PD X Z (.Subscript a b pos) (dOp (irr2 wIx) ta tb) := by rw [irr2_eq]; exact pd_ix ha hb hs
theorem at_last (S : Sto) (o : Ob) : (S ++ [o])[S.length]? = some o := by simp
theorem keepL_bools {o : Ob} {bs : List Bool} (h : boolsOf (itemsOf o) = some bs) : keepL o = some o := by
  cases o <;> first | rfl | cases h
theorem all_at {g : List Bool → Bool} {n : Nat} {S : Sto} {o : Ob} {bs : List Bool} {Q : DK} (h : S[n]? = some o) (hb : boolsOf (itemsOf o) = some bs) (hq : Q (.bl (g bs)) S) : irr (wAll g) [.ref n] S Q := by
  rw [irr_eq]
  unfold wAll
  simp only [lAt_of h (keepL_bools hb), hb]
  exact hq
theorem app_at {to te : TDE} {dl : Ev} {S S1 : Sto} {Q : DK} {n : Nat} {xs : List D} {y : D} (hto : ∀ K : DK, K (.ref n) S1 → to dl S K) (h : S1[n]? = some (.lst xs)) (hte : ∀ K : DK, K y S1 → te dl S1 K) (hl : xs.length < 1000) (hq : Q .non (S1.set n (.lst (xs ++ [y])))) : dApp to te dl S Q := by
  unfold dApp
  refine hto _ ?_
  simp only [h]
  refine hte _ ?_
  simp only [h]
  exact ifP hl hq
end
end L3
namespace L3
end L3

/-! ### isinstance of an exception, both answers -/
namespace L3
open PySem PySem.Spec PyProof.Rows L2 PySem.W Builtin Builtin.ObjectAttr Builtin.Getset_descriptor
theorem find_data {K : Frag} {M : Model} {h : Heap} {x D : Addr} {name : Str} {a g : Value} (X : K.In h) (ha : findIn K (.ref D) name = some (some a)) (hn : specialIn K a "__get__" = some (some g)) (ht : takesIn K a = some true) : Looks M h (find (.ref x) (.ref D) name) (.bind g a) := by
  have l1 := looks_findIn (M := M) X ha
  have l2 : Looks M h (getOf (some a)) (some g) := looks_specialIn X hn
  have l3 : Looks M h (dataDescriptor? (some a) (some g)) (some (g, a)) := (looks_takesIn X ht).andThen .now
  exact l1.andThen (l2.andThen (l3.andThen (Looks.tag .now)))
theorem class_got {prog : Program} {w : World} {A : Around} {K : Frag} {x D : Addr} {tp : Value} {R : Result → Shared → Prop} {s : Shared} (X : K.In s.heap) (T : Looks (model prog w) s.heap (typeOf (.ref x)) (.ref D)) (hm : mroIn K D (.type "object") = some true)
    (q : R (.ok (.ret (.ref D))) s) : codeAny (model prog w) A (.call (.builtin "getset_descriptor.__get__") ⟨[.builtin "object.__class__", .ref x, tp], []⟩) R s := by
  obtain ⟨h0, g0, d0, t0, o0⟩ := s
  have l4 := looks_mroIn (M := model prog w) X hm
  refine codeAny_call_builtin KF.slot_gs.plain KF.entry_gs (KF.slot_gs.check _ _ _ _ _ _ _ _ KF.type_class (KF.args_gs _ _ _) ?_); unfold Builtin.«getset_descriptor.__get__» descrGet; rw [dga_obj]; refine wpAny_bind (wpAny_pure ?_)
  unfold descrGetter descrCheckInstance descrNameAndClass isInstance; simp only [KF.owner_class]; repeat lk
  refine ⟨Code.quiet_builtin _ (by decide +kernel), codeAny_builtin KF.entry_class ?_⟩; unfold Builtin.«object.__class__» shownTypeOf
  repeat lk
  exact q
theorem class_of_exc {prog : Program} {w : World} {A : Around} {E : Value → Shared → Prop} {K : Frag} {x D : Addr} {Q : Option Value → Shared → Prop} {s : Shared} (X : K.In s.heap) (T : Looks (model prog w) s.heap (typeOf (.ref x)) (.ref D))
    (hga : findIn K (.ref D) "__getattribute__" = some (some (.builtin "BaseException.__getattribute__"))) (hk : findIn K (.ref D) "__getattr__" = some none) (ha : findIn K (.ref D) "__class__" = some (some (.builtin "object.__class__")))
    (hn : specialIn K (.builtin "object.__class__") "__get__" = some (some (.builtin "getset_descriptor.__get__"))) (ht : takesIn K (.builtin "object.__class__") = some true) (hm : mroIn K D (.type "object") = some true) (hb : mroIn K D (.type "BaseException") = some true)
    (q : Q (some (.ref D)) { s with toks := s.toks + 1 }) : wpAny (model prog w) A (getAttr? (.ref x) "__class__") Q E s := by
  obtain ⟨h0, g0, d0, t0, o0⟩ := s
  have l1 := looks_findIn (M := model prog w) X hga
  have l2 := looks_findIn (M := model prog w) X hk
  have l3 := find_data (M := model prog w) (x := x) X ha hn ht
  have l5 := looks_mroIn (M := model prog w) X hb
  have f3 := F.excAttr_ValueError.ga.bind (.ref x)
  unfold getAttr? getAttrBy?
  unfold getAttrBy
  refine wpAny_bind (wpAny_mkText (wpAny_bind (wpAny_attempt (wpAny_holding (wpAny_bind (T.at (wpAny_bind (l1.at ?_))))))))
  dsimp only
  have other : ("BaseException.__getattribute__" == "object.__getattribute__") = false := by decide +kernel
  rw [if_neg (fun z => by
    have y := (Bool.and_eq_true_iff.mp z).2
    have y2 : "BaseException.__getattribute__" = "object.__getattribute__" := Value.builtin.inj (beq_iff_eq.mp y)
    rw [y2] at other
    simp at other)]
  unfold getAttrByItsOwn hookBefore
  refine wpAny_bind ?_
  lk
  lk
  refine wpAny_bind (wpAny_attempt ?_); refine wpAny_holding ?_; show wpAny _ _ (boundAndCalled _ _ _) _ _ _
  unfold boundAndCalled
  refine wpAny_bind (wpAny_of_eq f3 ?_)
  refine wpAny_call (codeAny_call_builtin F.excAttr_ValueError.ga.plain F.entry_bexc_ga ?_)
  have k1 : builtinKind "BaseException.__getattribute__" = some .slot := by decide +kernel
  have k2 : splitId "BaseException.__getattribute__" = some ("BaseException", "__getattribute__") := by decide +kernel
  have k3 := F.args_bexc_ga (.ref x) (.str "__class__" t0)
  have li : Looks (model prog w) h0 (isInstance (.ref x) (.type "BaseException")) true := T.andThen l5
  simp only [checkBuiltinCall, k1, k2]
  refine wpAny_bind (li.at ?_)
  rw [if_neg (by decide)]
  have go : wpAny (model prog w) A.in1 («object.__getattribute__» ⟨[.ref x, .str "__class__" t0], []⟩) (fun fin s' => fin = .done (.ret (.ref D)) ∧ s' = ⟨h0, g0, d0, t0 + 1, o0⟩) (fun _ _ => False) ⟨h0, g0, d0, t0 + 1, o0⟩ := by
    unfold «object.__getattribute__»
    refine wpAny_bind (wpAny_pure (wpAny_bind (wpAny_pure (wpAny_bind (T.at ?_)))))
    refine wpAny_bind (l3.at ?_)
    show wpAny _ _ (holding [Value.builtin "object.__class__"] (call (.builtin "getset_descriptor.__get__") [.builtin "object.__class__", .ref x, .ref D]) >>= ret) _ _ _
    exact wpAny_bind (wpAny_holding (wpAny_call (class_got (s := ⟨h0, g0, d0, t0 + 1, o0⟩) X T hm (wpAny_pure ⟨rfl, rfl⟩))))
  have step : ∀ {P : Unit → Shared → Prop} {E' : Value → Shared → Prop}, P () ⟨h0, g0, d0, t0 + 1, o0⟩ → wpAny (model prog w) A.in1 (match Manifest.signature? "BaseException.__getattribute__" with
      | some sig => Bind.checkArgs "BaseException.__getattribute__" sig ⟨[.ref x] ++ [.str "__class__" t0], []⟩
      | _ => pure ()) P E' ⟨h0, g0, d0, t0 + 1, o0⟩ := fun {P E'} hp => by
    unfold argsOk at k3
    split
    · rename_i sig hsig
      simp only [hsig] at k3
      exact wpAny_of_eq k3 hp
    · exact wpAny_pure hp
  refine step (wpAny_mono go (fun fin s' z => ?_) fun _ _ z => z.elim)
  obtain ⟨e1, e2⟩ := z
  subst e1 e2
  exact handed_on rfl (wpAny_pure q)
/-- what the fragment says of an exception class, for isinstance -/
structure Nx (K : Frag) (D : Addr) : Prop where
  ga : findIn K (.ref D) "__getattribute__" = some (some (.builtin "BaseException.__getattribute__"))
  hk : findIn K (.ref D) "__getattr__" = some none
  ha : findIn K (.ref D) "__class__" = some (some (.builtin "object.__class__"))
  hn : specialIn K (.builtin "object.__class__") "__get__" = some (some (.builtin "getset_descriptor.__get__"))
  ht : takesIn K (.builtin "object.__class__") = some true
  hm : mroIn K D (.type "object") = some true
  hb : mroIn K D (.type "BaseException") = some true
theorem kitx_exc {K : Frag} {x D : Addr} (n : Nx K D) : KitX K (.ref x) (.ref D) (fun h => ∃ o, h.get? x = some o ∧ o.cls = .ref D) := by
  have ty : ∀ (M : Model) (h : Heap), K.In h → (∃ o, h.get? x = some o ∧ o.cls = .ref D) → Looks M h (typeOf (.ref x)) (.ref D) := fun M h _ p => by
    obtain ⟨o, h1, h2⟩ := p
    rw [← h2]
    exact (Looks.ld h1).andThen .now
  have cl : ∃ oc od cd sl, K.lookup D = some ⟨oc, od, .cls cd, sl⟩ := by
    obtain ⟨cd, e, _⟩ := Option.bind_eq_some_iff.mp n.hm
    unfold clsIn at e
    split at e
    · rename_i oc od cd' sl ho
      exact ⟨oc, od, cd', sl, ho⟩
    · cases e
  obtain ⟨oc, od, cd, sl, ho⟩ := cl
  refine ⟨ty, fun M h X _ => ?_, fun h tp dd its k sl' X htp => ?_, fun {prog w A E Q s} X p q => class_of_exc X (ty _ _ X p) n.ga n.hk n.ha n.hn n.ht n.hm n.hb q⟩
  · intro A' Q' E' s' k z
    unfold isType loadHead
    exact wpAny_bind (wpAny_loadPart (k _ _ (X _ _ ho)) (wpAny_pure z))
  · refine Bool.eq_false_iff.mpr fun z => ?_
    have e : D = tp := Value.ref.inj (beq_iff_eq.mp z)
    subst e
    have y := (X _ _ ho).symm.trans htp
    cases y
section
variable {X : Cx} {Z : Zx}
/-- isinstance of what was caught: the classes at which the answer is known -/
@[irreducible] def dInstB (ans : Addr → Option Bool) (te : TDE) : TDE := fun dl S Q => te dl S fun d S1 => match d with
  | .exc c => match ans c with
    | some b => Q (.bl b) S1
    | none => False
  | _ => False
def rInstB (K : PySem.W.Frag) (vc : V) (cv : Value) : List V → Hp → VK → Prop := fun xs H Qv => ∃ a c b, xs = [.ref a, vc] ∧ H a = some (isX a c) ∧ PySem.W.kitOne K (.ref c) cv = some b ∧ Nx K c ∧ Qv (.bl b) H
theorem callr_instB {vc : V} {cv : Value} (hv : ∀ u, RelV vc u → u = cv) : CallR X (.builtin "isinstance") (rInstB X.K vc cv) := by
  intro pins s σ H xs us Q I rv h
  obtain ⟨a, c, b, rfl, h1, h2, nx, q⟩ := h
  obtain ⟨u, w', rfl, r1, r2⟩ := vals2 rv
  cases r1
  have e := hv w' r2
  subst e
  have ob : ∃ o, s.heap.get? a = some o ∧ o.cls = .ref c := (I.hok a _ h1).1
  exact kia_one (kitx_exc nx) I.kIn ob h2 (fun z => nomatch z) fun tk => ⟨.bl b, H, I.tok tk, rfl, q⟩
theorem instB_up {te : TDE} {ans : Addr → Option Bool} {vc : V} {cv : Value} (hy : ∀ c b, ans c = some b → PySem.W.kitOne X.K (.ref c) cv = some b ∧ Nx X.K c) {σ : St} {H : Hp} {Qv : VK} (h : up X.K Z (dInstB ans te) σ H Qv) :
    up X.K Z te σ H fun v H1 => rInstB X.K vc cv [v, vc] H1 Qv := by
  obtain ⟨r, dl, S, Q, rs, rel, h, ret⟩ := h
  unfold dInstB at h
  refine ⟨r, dl, S, _, rs, rel, h, fun v H1 r1 d S1 e1 rel1 p1 h1 => ?_⟩
  cases p1 with
  | @exc c a hx =>
    dsimp only at h1
    split at h1
    · rename_i b eb
      obtain ⟨y1, y2⟩ := hy c b eb
      exact ⟨a, c, b, rfl, hx, y1, y2, ret _ _ _ _ _ e1 rel1 (.bl _) h1⟩
    · exact h1.elim
  | _ => exact (show False from h1).elim
theorem pd_instB {e : Expr} {te : TDE} {y : Str} {p p2 pos : Pos} {C : Addr} {ans : Addr → Option Bool} (hy : ∀ c b, ans c = some b → PySem.W.kitOne X.K (.ref c) (.ref C) = some b ∧ Nx X.K c) (hg : Gl X "isinstance") (hm : X.mg "isinstance" = none) (hg2 : Gl X y) (hm2 : X.mg y = some (.ref C)) (ha : PD X Z e te)
    (hv : bootBuiltins "isinstance" = some (.builtin "isinstance") := by exact PyProof.Rows.Boot.«isinstance»)
    (hd2 : (y == ("__debug__" : Str)) = false := by decide) (he2 : starEach [e, .Name y p2] X.env = (false, eval e X.env) :: starEach [.Name y p2] X.env := by rfl)
    (he3 : starEach [.Name y p2] X.env = (false, eval (.Name y p2) X.env) :: starEach [] X.env := by rfl) (hpl : (backTo pos (starEach [.Name y p2] X.env)).any (·.1) = false := by rfl) :
    PD X Z (.Call (.Name "isinstance" p) [e, .Name y p2] [] pos) (dInstB ans te) :=
  PEimp (pe_callB (callr_instB (vc := .ref C) (cv := .ref C) fun u r => r) hg hm hv (pa_cons ha (pa_cons (pe_glob (v := .ref C) hg2 hm2 rfl hd2) pa_nil he3) he2) (by decide) (by decide) he2 hpl) fun σ H Qv h => instB_up hy h
end
end L3

/-! ### == and in, lists of the store -/
namespace L3
open PySem PySem.Spec PyProof.Rows L2
/-- data of k levels of tuples -/
def eqN : Nat → D → D → Option Bool
  | 0 => eqF
  | k + 1 => eqT (eqN k)
/-- == of what may be lists of the store; the items of k levels -/
def eqSt (k : Nat) (S : Sto) : D → D → Option Bool
  | .ref n, .ref m => match lAt S n, lAt S m with
    | some o, some o' => eqL (eqN k) (itemsOf o) (itemsOf o')
    | _, _ => none
  | x, y => eqN (k + 1) x y
def wEqS (k : Nat) : W2 := fun x y S Q => match eqSt k S x y with
  | some b => Q (.bl b) S
  | none => False
def wNeS (k : Nat) : W2 := fun x y S Q => match eqSt k S x y with
  | some b => Q (.bl (!b)) S
  | none => False
section
variable {X : Cx} {Z : Zx}
/-- x in xs, a list of the store -/
def anyEq (f : D → D → Option Bool) : List D → D → Option Bool
  | [], _ => some false
  | y :: ys, x => match f y x, anyEq f ys x with
    | some b, some c => some (b || c)
    | _, _ => none
def wIn (k : Nat) (neg : Bool) : W2 := fun x y S Q => match y with
  | .ref n => match lAt S n with
    | some o => match anyEq (eqN k) (itemsOf o) x with
      | some b => Q (.bl (if neg then !b else b)) S
      | none => False
    | none => False
  | _ => False
end
end L3

/-! ### walks over tuples, tuple targets, texts -/
namespace L3
open PySem PySem.Spec PyProof.Rows L2
section
variable {X : Cx} {Z : Zx} {pos : Pos}
/-- for x in a tuple -/
def dForT (i : Nat) (tl : TDE) (tb : TDS) : TDS := fun E dl S => tl dl S fun d S1 => match d with
  | .tup xs => ∃ W : Nat → Ev → Sto → Prop, W 0 dl S1 ∧ ∀ k dl S, W k dl S → match xs[k]? with
    | some x => tb { nx := fun dl' S' => W (k + 1) dl' S', rt := E.rt, bk := E.nx, ct := fun dl' S' => W (k + 1) dl' S' } (dl.set i (some x)) S
    | none => E.nx dl S
  | _ => False
/-- x, y, .. = a tuple of so many -/
def setAll : List Nat → List D → Ev → Ev
  | i :: is, d :: ds, dl => setAll is ds (dl.set i (some d))
  | _, _, dl => dl
def setAllV : List Nat → List V → St → St
  | i :: is, v :: vs, σ => setAllV is vs (σ.set i (some v))
  | _, _, σ => σ
/-- targets that are names -/
inductive Nms (X : Cx) : List Expr → List Nat → Prop
  | nil : Nms X [] []
  | cons {x : Str} {p : Pos} {i : Nat} {es : List Expr} {is : List Nat} : X.N[i]? = some x → Loc X.env.scope x → (X.fn x = true ∨ X.env.scope.names.lookup x = some .local) → Nms X es is → Nms X (.Name x p :: es) (i :: is)
def gAll (is : List Nat) : TGs := fun vs σ H Q => vs.length = is.length ∧ Q (setAllV is vs σ) H
def dSetT (is : List Nat) (te : TDE) : TDS := fun E dl S => te dl S fun d S1 => match d with
  | .tup xs => xs.length = is.length ∧ E.nx (setAll is xs dl) S1
  | _ => False
/-- texts: x + y, x[i], len(x) -/
def wAddS : W2 := fun x y S Q => match x, y with
  | .str i, .str j => (i.length + j.length ≤ 1000) ∧ Q (.str (i ++ j)) S
  | _, _ => False
theorem do_addS : OpR X (binaryOp .Add) (upO X.K Z wAddS) := OpRimp op_add_str fun x y H Qv ⟨r, S, dx, dy, Q, rel, px, py, q, ret⟩ => by
  cases px <;> cases py <;> first
    | exact ⟨_, _, rfl, rfl, size1000 q.1, ret _ _ _ _ _ Ext.refl rel (.str _) q.2⟩
    | exact (show False from q).elim
def wIxS : W2 := fun x y S Q => match x, y with
  | .str z, .int i => ∃ c, (0 ≤ i ∧ i < 2 ^ 63 ∧ i < z.length) ∧ z.cps[i.toNat]? = some c ∧ Q (.str ⟨#[c]⟩) S
  | _, _ => False
theorem pd_ixS {a b : Expr} {ta tb : TDE} (ha : PD X Z a ta) (hb : PD X Z b tb) (hs : PlainIxT b) : PD X Z (.Subscript a b pos) (dOp wIxS ta tb) :=
  PEimp (pe_item_str ha hb hs) fun σ H Qv h => by
    obtain ⟨r, dl, S, Q, rs, rel, h, ret⟩ := h
    refine ⟨r, dl, S, _, rs, rel, h, fun v H1 r1 dx S1 e1 rel1 p1 h1 => ⟨r1, dl, S1, _, rs.ext e1, rel1, h1, fun v2 H2 r2 dy S2 e2 rel2 p2 h2 => ?_⟩⟩
    cases p1 with
    | str z =>
      cases p2 with
      | int i =>
        obtain ⟨c, ⟨b1, b2, b3⟩, hc, q⟩ := h2
        exact ⟨z, i, c, rfl, rfl, b1, b2, b3, hc, ret _ _ _ _ _ (e1.trans e2) rel2 (.str _) q⟩
      | _ => exact (show False from h2).elim
    | _ => exact (show False from h2).elim
end
end L3

/-! ### loops with the store at rest; the last list of the store -/
namespace L3
open PySem L2
theorem set_last (S : Sto) (o u : Ob) : (S ++ [o]).set S.length u = S ++ [u] := by simp
theorem app_last {to te : TDE} {dl : Ev} {S T : Sto} {Q : DK} {xs : List D} {y : D} (hto : ∀ K : DK, K (.ref S.length) (S ++ [.lst xs]) → to dl T K) (hte : ∀ K : DK, K y (S ++ [.lst xs]) → te dl (S ++ [.lst xs]) K) (hl : xs.length < 1000) (hq : Q .non (S ++ [.lst (xs ++ [y])])) : dApp to te dl T Q :=
  app_at hto (at_last _ _) hte hl (by rw [set_last]; exact hq)
end L3

/-! ### bits, shifts; a def that is not called -/
namespace L3
open PySem PySem.Spec PyProof.Rows L2
section
variable {X : Cx} {Z : Zx}
abbrev wShl : W2 := wI CPow fun i j => .int (i * 2 ^ j.toNat)
/-- n.bit_length() -/
def dBits (to : TDE) : TDE := fun dl S Q => to dl S fun d S1 => match d with
  | .int i => Q (.int (Builtin.Int.intBits i)) S1
  | _ => False
end
/-- no promise: of a def that is not called -/
def spNever : Sd := fun _ _ _ _ => False
def Df.never {P : Program} {w : World} {K : PySem.W.Frag} {mg : Str → Option Value} {base : Heap} {x : Str} {st : Stmt} {ps : List Str} (k : Nat) (d : Df K mg x st ps) : Fk P w K mg base k x ps spNever :=
  ⟨d.f, d.fd, ⟨fun _ _ _ _ ⟨_, _, _, _, _, _, _, z, _⟩ => z.elim, fun _ _ _ _ _ _ _ _ _ _ _ _ _ ⟨_, _, _, _, _, _, _, z, _⟩ => z.elim⟩, d.m, d.F.kp, d.b⟩
end L3

/-! ### texts: length, signs, walks, the module's own words -/
namespace L3
open PySem PySem.Spec PyProof.Rows L2
section
variable {X : Cx} {Z : Zx} {pos : Pos}
/-- the length of a text -/
def wLenS : WC := fun ds S Q => match ds with
  | [.str x] => x.length ≤ 1000 ∧ Q (.int x.length) S
  | _ => False
theorem dc_lenS : CallR X (.builtin "len") (upC X.K Z wLenS) := CallRimp call_len_str fun xs H Qv ⟨r, S, ds, Q, rel, ps, q, ret⟩ => by
  unfold wLenS at q
  split at q
  · obtain ⟨v, vs, rfl, p1, p2⟩ := ps.uncons
    have z := p2.unnil
    subst z
    cases p1
    exact ⟨_, rfl, size1000 q.1, ret _ _ _ _ _ Ext.refl rel (.int _) q.2⟩
  · exact q.elim
/-- a sign in a text -/
def wInS : W2 := fun x y S Q => match x, y with
  | .str i, .str j => ∃ c, i = ⟨#[c]⟩ ∧ Q (.bl (decide (c ∈ j.cps.toList))) S
  | _, _ => False
theorem do_inS : OpR X (compareOp .In) (upO X.K Z wInS) := OpRimp op_in_str fun x y H Qv ⟨r, S, dx, dy, Q, rel, px, py, q, ret⟩ => by
  cases px <;> cases py <;> first
    | (obtain ⟨c, rfl, q⟩ := q
       exact ⟨_, _, rfl, rfl, by rw [StrLaws.found_one]; exact ret _ _ _ _ _ Ext.refl rel (.bl _) q⟩)
    | exact (show False from q).elim
/-- a name of the module that stands for a text, a whole number -/
theorem pd_globS {x z : Str} {t : Tok} {p : Pos} (hm : X.mg x = some (.str z t)) (hg : Gl X x) (hd : (x == ("__debug__" : Str)) = false := by decide) : PD X Z (.Name x p) (dC (.str z)) :=
  PEimp (pe_glob hg hm (v := .str z) ⟨t, rfl⟩ hd) fun σ H Qv ⟨r, dl, S, Q, rs, rel, h, ret⟩ => ret _ H r (.str z) S Ext.refl rel (.str z) h
theorem pd_globI {x : Str} {i : Int} {t : Tok} {p : Pos} (hm : X.mg x = some (.int i t)) (hg : Gl X x) (hd : (x == ("__debug__" : Str)) = false := by decide) : PD X Z (.Name x p) (dC (.int i)) :=
  PEimp (pe_glob hg hm (v := .int i) ⟨t, rfl⟩ hd) fun σ H Qv ⟨r, dl, S, Q, rs, rel, h, ret⟩ => ret _ H r (.int i) S Ext.refl rel (.int i) h
/-- a tuple of texts that the module has -/
def GT (K : PySem.W.Frag) (mg : Str → Option Value) (x : Str) (ws : List Str) : Prop :=
  ∃ (a : Addr) (o : Obj) (its : Array Value) (n : Nat), mg x = some (.ref a) ∧ K.lookup a = some o ∧ o.cls = .type "tuple" ∧ o.data = .seq its n ∧ its.size ≤ sizeLine ∧ Vals (ws.map V.str) its.toList
def dNotInG (ws : List Str) (ta : TDE) : TDE := fun dl S Q => ta dl S fun d S1 => match d with
  | .str w => Q (.bl (!ws.any (· == w))) S1
  | _ => False
/-! the signs of a text, walked -/
def Its (z : Str) : It := ⟨fun i _ => i < z.cps.size, fun i H x H' => H' = H ∧ ∃ c, z.cps[i]? = some c ∧ x = .str ⟨#[c]⟩, fun i _ => i = z.cps.size⟩
theorem turn_str {P : Program} {w : World} {K : PySem.W.Frag} {tg : Expr} {nm : String} {z : Str} {t : Tok} (it : Addr)
    (W : ∀ A' : Around, A'.handled = none → Walks P w A' it [it] [it] z.cps.size (SignAt z) (fun i h => h.IsStrIter it nm z t i))
    (slf : ∀ (A : Around) (i : Nat) (s : Shared) (Q : Value → Shared → Prop) (E : Value → Shared → Prop), s.heap.IsStrIter it nm z t i → Q (.ref it) s → wpAny (model P w) A (pyIter (.ref it)) Q E s)
    (hn : ["enumerate", "zip", "dict_itemiterator", "dict_reverseitemiterator", "odict_iterator", "itertools.zip_longest", "itertools.pairwise"].contains nm = false) :
    Turn P w K tg (Its z) [it] it (fun i h => h.IsStrIter it nm z t i) where
  mem := by simp
  obj := fun i h st b hb => by
    have e : b = it := by simpa using hb
    subst e
    obtain ⟨o, e, c, d⟩ := st
    exact ⟨o, e, fun v y => by rw [d] at y; cases y⟩
  keep := fun i h h' st k => by
    obtain ⟨o, e, c, d⟩ := st
    exact ⟨o, k it (by simp) o e, c, d⟩
  item := by
    intro X hP hw hK hc i pins s σ H E I hf st hg
    subst hP hw hK
    obtain ⟨f0, f1, f2, f3, f4, f5⟩ := hf it (by simp)
    refine (W X.A (I.ok.hd hc)).item i s _ _ hg st fun v h' tk hv st' kk => ?_
    obtain ⟨c, u, hcp, rfl⟩ := hv
    have I1 : Inv X pins σ H { s with heap := h', toks := tk } := I.turned (fun b o hb e => kk b o (by simpa using hb) e) f0 f1 f3 f4 f5
    obtain ⟨o, e, c1, d⟩ := id st'
    exact ⟨_, rfl, go_of (s := { s with heap := h', toks := tk }) e c1 d hn ⟨.str ⟨#[c]⟩, H, I1, ⟨u, rfl⟩, ⟨rfl, c, hcp, rfl⟩, st', fun b hb => (hf b hb).1⟩⟩
  done := by
    intro X hP hw hK hc i pins s σ H E I hf st hg
    subst hP hw hK
    obtain ⟨f0, f1, f2, f3, f4, f5⟩ := hf it (by simp)
    have hi : i = z.cps.size := hg
    subst hi
    exact (W X.A (I.ok.hd hc)).done s _ _ st fun h' tk kk => ⟨rfl, I.turned (t' := tk) (fun b o hb e => kk b o (by simpa using hb) e) f0 f1 f3 f4 f5⟩
  self := fun A i s Q E st h => slf A i s Q E st h
def iStr (tl : TE) : TI := fun σ H R => tl σ H fun x H1 => ∃ z, x = .str z ∧ R (Its z) H1
theorem pi_str {tg l : Expr} {tl : TE} (hl : PE X l tl) : PI X tg l (iStr tl) := by
  intro pins s σ H R I h
  refine thn (hl pins s σ H _ I h) fun v s1 ⟨x, H1, I1, r1, q1⟩ => ?_
  obtain ⟨z, e, q⟩ := q1
  subst e
  obtain ⟨t, rfl⟩ := r1
  have fp : ∀ b ∈ [s1.heap.objs.size], FpOk X pins H1 b := fun b hb => by
    have e : b = s1.heap.objs.size := by simpa using hb
    subst e
    exact I1.fpOk (Nat.le_refl _) (I1.hok.fresh (Nat.le_refl _))
  cases ha : z.cps.all (· < 128)
  · exact wpAny_pyIter_wide ha ⟨s1.heap.objs.size, [s1.heap.objs.size], _, _, H1, rfl, I1.kept (t' := s1.toks) fun b o e => Heap.get?_push_of_some _ e, turn_str _ (fun A' hA => Walks.strWide hA _ z t) (fun A i s Q E st h => wpAny_pyIter_striter_wide st h) (by decide), ⟨_, Heap.get?_push_size _ rfl, rfl, rfl⟩, fp, q⟩
  · exact wpAny_pyIter_ascii ha ⟨s1.heap.objs.size, [s1.heap.objs.size], _, _, H1, rfl, I1.kept (t' := s1.toks) fun b o e => Heap.get?_push_of_some _ e, turn_str _ (fun A' hA => Walks.strAscii hA _ z t) (fun A i s Q E st h => wpAny_pyIter_striter_ascii st h) (by decide), ⟨_, Heap.get?_push_size _ rfl, rfl, rfl⟩, fp, q⟩
end
section
variable {X : Cx} {Z : Zx} {elt iter : Expr} {x : Str} {px pos : Pos} {ifs : List Expr} {sc ar : Scope} {N : List Str} {caps : List Nat}
@[irreducible] def dCompS (caps : List Nat) (tl : TDE) (tc : TDT) (te : TDE) : TDE := fun dl S Q => tl dl S fun d S1 => match d with
  | .str z => ∃ W : Nat → Sto → Prop, W 0 (S1 ++ [.lst []]) ∧ ∀ k S2, W k S2 → match z.cps[k]? with
    | some c => dTurn caps tc te S1.length dl (.str ⟨#[c]⟩) S2 fun S3 => W (k + 1) S3
    | none => k = z.cps.size ∧ Q (.ref S1.length) S2
  | _ => False
theorem comp_str {tl : TDE} {tc : TDT} {te : TDE} {σ : St} {H : Hp} {Qv : VK} (h : up X.K Z (dCompS caps tl tc te) σ H Qv) : tComp caps (iStr (up X.K Z tl)) (upT X.K Z0 tc) (up X.K Z0 te) σ H Qv := by
  obtain ⟨r, dl, S, Q, rs, rel, h, ret⟩ := h
  unfold dCompS at h
  refine ⟨r, dl, S, _, rs, rel, h, fun v H1 r1 d S1 x1 rel1 p1 q1 => ?_⟩
  cases p1 with
  | str z =>
    obtain ⟨W, w0, turn⟩ := q1
    refine ⟨z, rfl, fun D0 hD => ?_⟩
    obtain ⟨rel2, x2⟩ := rel1.b.push (ds := []) (xs := []) hD Rps.nil
    refine ⟨fun k m H' => m = z.cps.size - k ∧ ∃ r' S', Ext (r1 ++ [D0]) r' (upd H1 D0 (.lst [])) H' ∧ RelB X.K r' S' H' ∧ W k S', ⟨z.cps.size, by simp, _, _, Ext.refl, rel2, w0⟩, ?_⟩
    rintro k m H2 ⟨em, r2, S2, x3, rb2, w2⟩
    have ha2 : r2[S1.length]? = some D0 := x3.adr _ _ (last_at rel1.len)
    have q := turn k S2 w2
    split at q
    · rename_i c hc
      have hk : k < z.cps.size := by
        by_cases y : k < z.cps.size
        · exact y
        · rw [Array.getElem?_eq_none (by omega)] at hc; cases hc
      refine .inr ⟨hk, fun v' H' y' => ?_⟩
      obtain ⟨eH, c', hc', y'⟩ := y'
      subst eH
      subst y'
      have ec : c' = c := by rw [hc] at hc'; exact (Option.some.inj hc').symm
      subst ec
      have z := up_turn (Nx := fun H' => ∃ m', m' < m ∧ m' = z.cps.size - (k + 1) ∧ ∃ r' S', Ext (r1 ++ [D0]) r' (upd H1 D0 (.lst [])) H' ∧ RelB X.K r' S' H' ∧ W (k + 1) S') (rs.ext (x1.trans (x2.trans x3))) ha2 rb2 (.str ⟨#[c']⟩) q
        fun r' S' H' x' rb' w' => ⟨z.cps.size - (k + 1), by omega, rfl, r', S', x3.trans x', rb', w'⟩
      exact z
    · obtain ⟨hk, q⟩ := q
      exact .inl ⟨hk, ret _ H2 r2 _ S2 (x1.trans (x2.trans x3)) ⟨rb2, rel.xw.ext (x1.trans (x2.trans x3))⟩ (.ref ha2) q⟩
  | _ => exact (show False from q1).elim
theorem pd_compS {tl : TDE} {tc : TDT} {te : TDE} (har : X.env.scope = ar) (hc : X.calm = true) (cs : CompSc sc ar x N) (hN : caps.map (fun i => X.N[i]?) = N.map some) (hnd : (x :: N).Nodup) (hl : PD X Z iter tl)
    (ht : ∀ cl C s0 H0 fp pn, PDTs (Cx.comp X sc (x :: N) cl C s0 H0 fp pn) ifs tc) (he : ∀ cl C s0 H0 fp pn, PD (Cx.comp X sc (x :: N) cl C s0 H0 fp pn) Z0 elt te)
    (hs : ∀ y, foldedSetIterable iter X.env y = pure y := by intro _; rfl) : PD X Z (.ListComp elt [⟨.Name x px, iter, ifs, 0⟩] sc pos) (dCompS caps tl tc te) := by
  subst har
  exact PEimp (pe_comp hc cs hN hnd (tc := upT X.K Z0 tc) (te := up X.K Z0 te) (pi_str hl) ht he hs) fun _ _ _ h => comp_str h
/-- each sign's answer -/
theorem compS_pure {tl te : TDE} {dl : Ev} {S S1 : Sto} {Q : DK} {z : Str} (g : Nat → D) (htl : ∀ K : DK, K (.str z) S1 → tl dl S K) (hl : z.cps.size ≤ 1000)
    (ht : ∀ c ∈ z.cps.toList, ∀ (S2 : Sto) (K : DK), Pre S1 S2 → K (g c) S2 → te (some (.str ⟨#[c]⟩) :: capD caps dl) S2 K) (hq : Q (.ref S1.length) (S1 ++ [.lst (z.cps.toList.map g)])) : dCompS caps tl dYes te dl S Q := by
  unfold dCompS
  refine htl _ ⟨fun k S2 => S2 = S1 ++ [.lst ((z.cps.toList.take k).map g)] ∧ k ≤ z.cps.size, ⟨by simp, by omega⟩, ?_⟩
  rintro k S2 ⟨rfl, hk⟩
  split
  · rename_i c hc
    have hk' : k < z.cps.size := by
      by_cases y : k < z.cps.size
      · exact y
      · rw [Array.getElem?_eq_none (by omega)] at hc; cases hc
    have hl' : z.cps.toList[k]? = some c := by simpa using hc
    unfold dTurn dYes
    simp only [if_true]
    refine ht c (List.mem_of_getElem? hl') _ _ Pre.refl.push ?_
    rw [at_last]
    refine ⟨by simp; omega, ?_, by omega⟩
    have e : z.cps.toList.take (k + 1) = z.cps.toList.take k ++ [c] := by rw [List.take_succ, hl']; rfl
    rw [e, List.map_append, List.set_append_right _ _ (Nat.le_refl _)]
    simp
  · rename_i hc
    have hk' : k = z.cps.size := by
      by_cases y : k < z.cps.size
      · rw [Array.getElem?_eq_getElem y] at hc; cases hc
      · omega
    refine ⟨hk', ?_⟩
    rw [hk', List.take_of_length_le (by simp)]
    exact hq
end

/-! ### join, slices of texts -/
section
variable {X : Cx} {Z : Zx} {pos : Pos}
def strsOf : List D → Option (List Str)
  | [] => some []
  | .str x :: r => (strsOf r).map (x :: ·)
  | _ => none
theorem strs_vals {r : List Addr} {H : Hp} : ∀ {ds : List D} {vs : List V} {us : List Value} {zs : List Str}, strsOf ds = some zs → Rps r H ds vs → Vals vs us → StrsAre us zs
  | [], vs, us, zs, e, p, q => by
    have z := p.unnil
    subst z
    cases q
    simp only [strsOf, Option.some.injEq] at e
    subst e
    exact .nil
  | d :: ds, vs, us, zs, e, p, q => by
    obtain ⟨v, vs', rfl, p1, p2⟩ := p.uncons
    cases p1 with
    | str x =>
      cases q with
      | cons q1 q2 =>
        obtain ⟨t, rfl⟩ := q1
        simp only [strsOf, Option.map_eq_some_iff] at e
        obtain ⟨ms, e1, rfl⟩ := e
        exact .cons x t (strs_vals e1 p2 q2)
    | _ => simp [strsOf] at e
def flat (zs : List Str) : Str := ⟨(zs.flatMap fun z => z.cps.toList).toArray⟩
theorem join_flat (sep : Str) (h : sep.length = 0) : ∀ zs : List Str, Txt.join sep zs = flat zs := by
  have e : sep.cps = #[] := by
    unfold Str.length at h
    exact Array.eq_empty_of_size_eq_zero h
  have key : ∀ (zs : List Str) (a : Array Nat), zs.foldl (fun acc p => acc ++ sep.cps ++ p.cps) a = a ++ (zs.flatMap fun z => z.cps.toList).toArray := by
    intro zs
    induction zs with
    | nil => intro a; simp
    | cons z zs ih =>
      intro a
      rw [List.foldl_cons, ih, e, List.flatMap_cons]
      exact Array.ext' (by simp)
  intro zs
  show Builtin.Str.glued sep zs = flat zs
  unfold Builtin.Str.glued flat
  cases zs with
  | nil => rfl
  | cons z zs =>
    rw [List.drop_one, List.tail_cons, List.headD_cons, key, List.flatMap_cons]
    simp
@[irreducible] def dJoin (to : TDE) (t : TDA) : TDE := fun dl S Q => to dl S fun d S1 => match d with
  | .str sep => t dl S1 fun ds S2 => match ds with
    | [.ref n] => match lAt S2 n with
      | some o => ∃ zs, strsOf (itemsOf o) = some zs ∧ sep.length = 0 ∧ (∀ z ∈ zs, z.length ≤ 8) ∧ zs.length ≤ 1000 ∧ Q (.str (flat zs)) S2
      | none => False
    | _ => False
  | _ => False
/-- x[lo:hi] of a text -/
abbrev TDO := Ev → Sto → (Option Int → Sto → Prop) → Prop
def upP (K : PySem.W.Frag) (Z : Zx) (t : TDO) : TO := fun σ H Q => ∃ (r : List Addr) (dl : Ev) (S : Sto) (Q' : Option Int → Sto → Prop), Rs r H dl σ ∧ Rel K Z r S H ∧ t dl S Q' ∧ ∀ o H' r' S', Ext r r' H H' → Rel K Z r' S' H' → Q' o S' → Q o H'
def PDO (X : Cx) (Z : Zx) (e : Option Expr) (t : TDO) : Prop := PO X e (upP X.K Z t)
def dNoPart : TDO := fun _ S Q => Q none S
def dPart (t : TDE) : TDO := fun dl S Q => t dl S fun d S1 => match d with
  | .int i => Q (some i) S1
  | _ => False
theorem POimp {e : Option Expr} {t t' : TO} (h : PO X e t) (g : ∀ σ H Q, t' σ H Q → t σ H Q) : PO X e t' := fun pins s σ H Q I q => h pins s σ H Q I (g σ H Q q)
theorem pdo_none : PDO X Z none dNoPart := POimp po_none fun σ H Q ⟨r, dl, S, Q', rs, rel, h, ret⟩ => ret none H r S Ext.refl rel h
theorem pdo_some {e : Expr} {t : TDE} (he : PD X Z e t) : PDO X Z (some e) (dPart t) := POimp (po_some he) fun σ H Q ⟨r, dl, S, Q', rs, rel, h, ret⟩ => ⟨r, dl, S, _, rs, rel, h, fun v H1 r1 d S1 e1 rel1 p1 q1 => by
  cases p1 with
  | int i => exact ⟨i, rfl, ret (some i) H1 r1 S1 e1 rel1 q1⟩
  | _ => exact (show False from q1).elim⟩
def dSlS (te : TDE) (tl th : TDO) : TDE := fun dl S Q => te dl S fun d S1 => tl dl S1 fun l S2 => th dl S2 fun u S3 => match d with
  | .str z => z.length ≤ 1000 ∧ Q (.str (StrLaws.sliceText z l u)) S3
  | _ => False
theorem sl_str : SlR X (fun x lo hi H Q => ∃ z, x = .str z ∧ z.length ≤ 1000 ∧ Q (.str (StrLaws.sliceText z lo hi)) H) := by
  intro pins s σ H x v vl vu lo hi sl Q I rx hs pl pu h
  obtain ⟨z, rfl, hz, q⟩ := h
  obtain ⟨t, rfl⟩ := rx
  refine ⟨"str", _, PySem.F.slot_str_getitem.lookup, typeIs_str s z t, ?_⟩
  have part : ∀ {v : Value} {o : Option Int}, IsPart v o → ∃ p : Option (Int × Tok), v = partValue p ∧ p.map (·.1) = o := fun {v o} p => by
    cases p with
    | none => exact ⟨none, rfl, rfl⟩
    | int i t => exact ⟨some (i, t), rfl, rfl⟩
  obtain ⟨l, rfl, el⟩ := part pl
  obtain ⟨u, rfl, eu⟩ := part pu
  refine wpAny_getItem_str_slice (l := l) (u := u) (st := none) hs rfl ?_
  have e : (sliceMade z t l u none).post (EP X pins σ Q) s := by
    unfold StrLaws.sliceText at q
    unfold sliceMade slicePicked
    rw [el, eu]
    split
    · rename_i c
      rw [if_pos (show ((1 : Int) == 1 && (Builtin.Str.strSliceIndices lo hi 1 z.length).length == z.length) = true from c)] at q
      exact ⟨.str z, H, I, ⟨t, rfl⟩, q⟩
    · rename_i c
      rw [if_neg (show ¬ ((1 : Int) == 1 && (Builtin.Str.strSliceIndices lo hi 1 z.length).length == z.length) = true from c)] at q
      refine ⟨?_, .str _, H, I.tok _, ⟨_, rfl⟩, q⟩
      have h1 := indices_len_le lo hi z.length
      have h2 := List.length_filterMap_le (fun x => z.cps[x]?) (Builtin.Str.strSliceIndices lo hi 1 z.length)
      have h3 : z.length ≤ sizeLine := size1000 hz
      show (List.filterMap (fun x => z.cps[x]?) (Builtin.Str.strSliceIndices lo hi 1 z.length)).toArray.size ≤ sizeLine
      rw [List.size_toArray]
      exact Nat.le_trans h2 (Nat.le_trans h1 h3)
  exact e
theorem pd_slS {e : Expr} {te : TDE} {lo hi : Option Expr} {tl th : TDO} {p2 : Pos} (he : PD X Z e te) (hl : PDO X Z lo tl) (hu : PDO X Z hi th) : PD X Z (.Subscript e (.Slice lo hi none p2) pos) (dSlS te tl th) :=
  PEimp (pe_slice sl_str he hl hu) fun σ H Qv ⟨r, dl, S, Q, rs, rel, h, ret⟩ => ⟨r, dl, S, _, rs, rel, h, fun v H1 r1 d S1 e1 rel1 p1 q1 => ⟨r1, dl, S1, _, rs.ext e1, rel1, q1, fun l H2 r2 S2 e2 rel2 q2 => ⟨r2, dl, S2, _, rs.ext (e1.trans e2), rel2, q2, fun u H3 r3 S3 e3 rel3 q3 => by
    cases p1 with
    | str z => exact ⟨z, rfl, q3.1, ret _ H3 r3 _ S3 (e1.trans (e2.trans e3)) rel3 (.str _) q3.2⟩
    | _ => exact (show False from q3).elim⟩⟩⟩
end
section
variable {X : Cx} {Z : Zx}
end
section
variable {X : Cx} {Z : Zx}
end
/-! words for texts -/
theorem bools_map {α : Type} (f : α → Bool) : ∀ l : List α, boolsOf (l.map fun c => D.bl (f c)) = some (l.map f)
  | [] => rfl
  | a :: r => by
    rw [List.map_cons, List.map_cons, boolsOf, bools_map f r]
    rfl
theorem ixL_at {n : Nat} {S : Sto} {o : Ob} {Q : DK} {i : Int} {d : D} (ho : S[n]? = some o) (hd : atI (itemsOf o) i = some d) (hq : Q d S) (hL : keepL o = some o := by rfl) : irr2 wIx (.ref n) (.int i) S Q := by
  rw [irr2_eq]
  unfold wIx
  simp only [lAt_of ho hL, hd]
  exact hq
theorem slice_len (z : Str) (l u : Option Int) : (StrLaws.sliceText z l u).length ≤ z.length := by
  unfold StrLaws.sliceText
  split
  · exact Nat.le_refl _
  · have h1 := indices_len_le l u z.length
    have h2 := List.length_filterMap_le (fun x => z.cps[x]?) (Builtin.Str.strSliceIndices l u 1 z.length)
    show (List.filterMap (fun x => z.cps[x]?) (Builtin.Str.strSliceIndices l u 1 z.length)).toArray.size ≤ z.length
    rw [List.size_toArray]
    omega
end L3

/-! ### instances -/
namespace L3
open PySem PySem.Spec PyProof.Rows L2
/-- a field is put: in its place, or at the end -/
def putD (f : Str) (v : D) : List (Str × D) → List (Str × D)
  | [] => [(f, v)]
  | p :: r => if p.1 = f then (f, v) :: r else p :: putD f v r
theorem FR.lookup {r : List Addr} {H : Hp} {f : Str} : ∀ {fs : List (Str × D)} {fs' : List (Str × V)}, FR r H fs fs' → (∀ d, fs.lookup f = some d → ∃ v, fs'.lookup f = some v ∧ Rp r H d v) ∧ (fs.lookup f = none → fs'.lookup f = none)
  | [], fs', h => by
    have e : fs' = [] := by
      have := h.1
      simpa using this.symm
    subst e
    exact ⟨fun d z => by simp at z, fun _ => rfl⟩
  | p :: fs, [], h => by
    have := h.1
    simp at this
  | p :: fs, q :: fs', h => by
    obtain ⟨h1, h2⟩ := h
    simp only [List.map_cons, List.cons.injEq] at h1
    obtain ⟨p1, p2⟩ := h2.tail
    obtain ⟨i1, i2⟩ := FR.lookup (f := f) (fs := fs) (fs' := fs') ⟨h1.2, p2⟩
    obtain ⟨pk, pv⟩ := p
    obtain ⟨qk, qv⟩ := q
    have ek : pk = qk := h1.1
    subst ek
    by_cases z : f = pk
    · subst z
      simp only [List.lookup_cons_self]
      exact ⟨fun d hd => ⟨qv, rfl, by cases hd; exact p1⟩, fun hd => by cases hd⟩
    · have zb : (f == pk) = false := by simpa using z
      simp only [List.lookup_cons, zb]
      exact ⟨i1, i2⟩
theorem FR.put {r : List Addr} {H : Hp} {f : Str} {d : D} {v : V} (q : Rp r H d v) : ∀ {fs : List (Str × D)} {fs' : List (Str × V)}, FR r H fs fs' → FR r H (putD f d fs) (putF f v fs')
  | [], fs', h => by
    have e : fs' = [] := by
      have := h.1
      simpa using this.symm
    subst e
    exact ⟨rfl, Rps.cons q Rps.nil⟩
  | p :: fs, [], h => by
    have := h.1
    simp at this
  | p :: fs, p' :: fs', h => by
    obtain ⟨h1, h2⟩ := h
    simp only [List.map_cons, List.cons.injEq] at h1
    obtain ⟨p1, p2⟩ := h2.tail
    have ih := FR.put (f := f) q (fs := fs) (fs' := fs') ⟨h1.2, p2⟩
    obtain ⟨pk, pv⟩ := p
    obtain ⟨qk, qv⟩ := p'
    have ek : pk = qk := h1.1
    subst ek
    unfold putD putF
    by_cases z : pk = f
    · rw [if_pos z, if_pos z]
      exact ⟨by simp [h1.2, z], Rps.cons q p2⟩
    · rw [if_neg z, if_neg z]
      exact ⟨by simp [ih.1], Rps.cons p1 ih.2⟩
section
variable {X : Cx} {Z : Zx} {pos : Pos}
/-- the instance of the class at C that d stands for: its number, its fields -/
def insAt (C : Addr) (S : Sto) : D → Option (Nat × List (Str × D))
  | .ref n => match S[n]? with
    | some (.ins C' fs) => if C' = C then some (n, fs) else none
    | _ => none
  | _ => none
@[irreducible] def dFld (C : Addr) (f : Str) (to : TDE) : TDE := fun dl S Q => to dl S fun d S1 => match insAt C S1 d with
  | some (_, fs) => match fs.lookup f with
    | some v => Q v S1
    | none => False
  | none => False
/-- o.f = e -/
@[irreducible] def dSetFld (C : Addr) (f : Str) (to te : TDE) : TDS := fun E dl S => te dl S fun v S1 => to dl S1 fun d S2 => match insAt C S2 d with
  | some (n, fs) => fs.length < 1000 ∧ E.nx dl (S2.set n (.ins C (putD f v fs)))
  | none => False
/-- o.m(..) -/
@[irreducible] def dMeth (C : Addr) (m : Str) (ex : Ev → Addr → Sto → Prop) (sd : Sd) (to : TDE) (t : TDA) : TDE := fun dl S Q => to dl S fun d S1 => match insAt C S1 d with
  | some (_, fs) => fs.lookup m = none ∧ t dl S1 fun ds S2 => sd (d :: ds) S2 Q (ex dl)
  | none => False
/-- C(..) -/
def dMake (C : Addr) (ex : Addr → Sto → Prop) (sd : Sd) (t : TDA) : TDE := fun dl S Q => t dl S fun ds S1 => sd (.ref S1.length :: ds) (S1 ++ [.ins C []]) (fun d S2 => d = .non ∧ Q (.ref S1.length) S2) ex
end
end L3

/-! ### dicts by tuples of ints and texts -/
namespace L3
open PySem PySem.Spec PyProof.Rows L2
def keysOf : List D → Option (List Key)
  | [] => some []
  | .int i :: r => (keysOf r).map (.inl i :: ·)
  | .str x :: r => (keysOf r).map (.inr x :: ·)
  | _ => none
def keyD : D → Option (List Key)
  | .tup ds => keysOf ds
  | _ => none
section
variable {κ : Type} [DecidableEq κ]
def valD (kvs : List (κ × D)) (k : κ) : Option D := (kvs.find? fun kv => decide (kv.1 = k)).map (·.2)
def putKD (kvs : List (κ × D)) (k : κ) (v : D) : List (κ × D) :=
  if (kvs.any fun kv => decide (kv.1 = k)) = true then kvs.map (fun kv => if kv.1 = k then (kv.1, v) else kv) else kvs ++ [(k, v)]
theorem FR.split {r : List Addr} {H : Hp} {p : κ × D} {fs : List (κ × D)} {gs : List (κ × V)} (h : FR r H (p :: fs) gs) : ∃ q gs', gs = q :: gs' ∧ p.1 = q.1 ∧ Rp r H p.2 q.2 ∧ FR r H fs gs' := by
  cases gs with
  | nil =>
    have := h.1
    simp at this
  | cons q gs' =>
    obtain ⟨h1, h2⟩ := h
    simp only [List.map_cons, List.cons.injEq] at h1
    obtain ⟨p1, p2⟩ := h2.tail
    exact ⟨q, gs', rfl, h1.1, p1, h1.2, p2⟩
theorem FR.unnil {r : List Addr} {H : Hp} {gs : List (κ × V)} (h : FR r H ([] : List (κ × D)) gs) : gs = [] := by
  have := h.1
  simpa using this.symm
theorem FR.cons {r : List Addr} {H : Hp} {k : κ} {d : D} {v : V} {fs : List (κ × D)} {gs : List (κ × V)} (p : Rp r H d v) (h : FR r H fs gs) : FR r H ((k, d) :: fs) ((k, v) :: gs) := ⟨by simp [h.1], Rps.cons p h.2⟩
theorem FR.val {r : List Addr} {H : Hp} {k : κ} : ∀ {fs : List (κ × D)} {gs : List (κ × V)}, FR r H fs gs → (∀ d, valD fs k = some d → ∃ v, valV gs k = some v ∧ Rp r H d v) ∧ (valD fs k = none → valV gs k = none)
  | [], gs, h => by
    have z := h.unnil
    subst z
    exact ⟨(fun d e => by cases e), fun _ => rfl⟩
  | p :: fs, gs, h => by
    obtain ⟨q, gs', rfl, e, pr, t⟩ := h.split
    obtain ⟨i1, i2⟩ := FR.val (k := k) t
    by_cases z : p.1 = k
    · have z' : q.1 = k := e.symm.trans z
      rw [valV_pos z']
      have zd : valD (p :: fs) k = some p.2 := by simp [valD, List.find?_cons, z]
      rw [zd]
      exact ⟨fun d hd => ⟨q.2, rfl, by cases hd; exact pr⟩, fun hd => by cases hd⟩
    · have z' : ¬ q.1 = k := fun y => z (e.trans y)
      rw [valV_neg z']
      have zd : valD (p :: fs) k = valD fs k := by simp [valD, List.find?_cons, z]
      rw [zd]
      exact ⟨i1, i2⟩
theorem FR.putK {r : List Addr} {H : Hp} {k : κ} {d : D} {v : V} {fs : List (κ × D)} {gs : List (κ × V)} (p : Rp r H d v) (h : FR r H fs gs) : FR r H (putKD fs k d) (putK gs k v) := by
  have any : ∀ {fs : List (κ × D)} {gs : List (κ × V)}, FR r H fs gs → (fs.any fun kv => decide (kv.1 = k)) = (gs.any fun kv => decide (kv.1 = k)) := by
    intro fs
    induction fs with
    | nil => intro gs h; have z := h.unnil; subst z; rfl
    | cons q fs ih =>
      intro gs h
      obtain ⟨q', gs', rfl, e, _, t⟩ := h.split
      rw [List.any_cons, List.any_cons, ih t, e]
  have mp : ∀ {fs : List (κ × D)} {gs : List (κ × V)}, FR r H fs gs → FR r H (fs.map fun kv => if kv.1 = k then (kv.1, d) else kv) (gs.map fun kv => if kv.1 = k then (kv.1, v) else kv) := by
    intro fs
    induction fs with
    | nil => intro gs h; have z := h.unnil; subst z; exact FR.nil
    | cons q fs ih =>
      intro gs h
      obtain ⟨q', gs', rfl, e, pr, t⟩ := h.split
      rw [List.map_cons, List.map_cons]
      obtain ⟨qk, qd⟩ := q
      obtain ⟨qk', qv⟩ := q'
      have e' : qk = qk' := e
      subst e'
      by_cases z : qk = k
      · rw [if_pos z, if_pos z]; exact FR.cons p (ih t)
      · rw [if_neg z, if_neg z]; exact FR.cons pr (ih t)
  have ap : ∀ {fs : List (κ × D)} {gs : List (κ × V)}, FR r H fs gs → FR r H (fs ++ [(k, d)]) (gs ++ [(k, v)]) := by
    intro fs
    induction fs with
    | nil => intro gs h; have z := h.unnil; subst z; exact FR.cons p FR.nil
    | cons q fs ih =>
      intro gs h
      obtain ⟨q', gs', rfl, e, pr, t⟩ := h.split
      obtain ⟨qk, qd⟩ := q
      obtain ⟨qk', qv⟩ := q'
      have e' : qk = qk' := e
      subst e'
      exact FR.cons pr (ih t)
  unfold putKD L2.putK
  rw [any h]
  split
  · exact mp h
  · exact ap h
end
section
variable {X : Cx} {Z : Zx} {pos : Pos}
/-- the dict that d stands for -/
def dctAt (S : Sto) : D → Option (Nat × List (List Key × D))
  | .ref n => match S[n]? with
    | some (.dct kvs) => some (n, kvs)
    | _ => none
  | _ => none
/-- what it holds at the key y -/
def atD (S : Sto) (d y : D) : Option (Option D) := match dctAt S d, keyD y with
  | some (_, kvs), some k => some (valD kvs k)
  | _, _ => none
@[irreducible] def dDGet (td ty : TDE) : TDE := fun dl S Q => td dl S fun d S1 => ty dl S1 fun y S2 => match atD S2 d y with
  | some (some v) => Q v S2
  | _ => False
@[irreducible] def dDIn (ty td : TDE) : TDE := fun dl S Q => ty dl S fun y S1 => td dl S1 fun d S2 => match atD S2 d y with
  | some o => Q (.bl o.isSome) S2
  | none => False
@[irreducible] def dDPut (td ty tv : TDE) : TDS := fun E dl S => tv dl S fun v S1 => td dl S1 fun d S2 => ty dl S2 fun y S3 => match dctAt S3 d, keyD y with
  | some (n, kvs), some k => kvs.length < 1000 ∧ E.nx dl (S3.set n (.dct (putKD kvs k v)))
  | _, _ => False
def dDNew : TDE := fun _ S Q => Q (.ref S.length) (S ++ [.dct []])
end
end L3

/-! ### lists: slices, items put, index; isinstance of a list -/
namespace L3
open PySem PySem.Spec PyProof.Rows L2
section
variable {X : Cx} {Z : Zx} {pos : Pos}
def cutD (xs : List D) (lo hi : Option Int) : List D := (xs.drop (HT.sIx xs.length 0 lo)).take (HT.sIx xs.length xs.length hi - HT.sIx xs.length 0 lo)
theorem Rps.drop {r : List Addr} {H : Hp} {ds : List D} {vs : List V} (h : Rps r H ds vs) (k : Nat) : Rps r H (ds.drop k) (vs.drop k) :=
  ⟨by simp [h.1], fun i d v h1 h2 => h.2 (k + i) d v (by simpa using h1) (by simpa using h2)⟩
theorem Rps.take {r : List Addr} {H : Hp} {ds : List D} {vs : List V} (h : Rps r H ds vs) (k : Nat) : Rps r H (ds.take k) (vs.take k) := by
  refine ⟨by simp [h.1], fun i d v h1 h2 => ?_⟩
  rw [List.getElem?_take] at h1 h2
  split at h1
  · rw [if_pos (by assumption)] at h2
    exact h.2 i d v h1 h2
  · cases h1
theorem Rps.cut {r : List Addr} {H : Hp} {ds : List D} {vs : List V} (h : Rps r H ds vs) (lo hi : Option Int) : Rps r H (cutD ds lo hi) (cutV vs lo hi) := by
  unfold cutD cutV
  rw [h.1]
  exact (h.drop _).take _
/-- xs[lo:hi]: a new list -/
@[irreducible] def dSlL (te : TDE) (tl th : TDO) : TDE := fun dl S Q => te dl S fun d S1 => tl dl S1 fun l S2 => th dl S2 fun u S3 => match d with
  | .ref n => match lAt S3 n with
    | some o => Q (.ref S3.length) (S3 ++ [.lst (cutD (itemsOf o) l u)])
    | none => False
  | _ => False
end
end L3

/-! ### xs[i] = v, xs.index(v), isinstance of a list -/
namespace L3
open PySem PySem.Spec PyProof.Rows L2
section
variable {X : Cx} {Z : Zx} {pos : Pos}
theorem Rps.put {r : List Addr} {H : Hp} {ds : List D} {vs : List V} {d : D} {v : V} (h : Rps r H ds vs) (p : Rp r H d v) (j : Nat) : Rps r H (ds.set j d) (vs.set j v) := by
  refine ⟨by simp [h.1], fun i x y h1 h2 => ?_⟩
  by_cases z : j = i
  · subst z
    have hl : j < ds.length := by
      have := (List.getElem?_eq_some_iff.mp h1).1
      simpa using this
    rw [List.getElem?_set_self hl] at h1
    rw [List.getElem?_set_self (by rw [← h.1]; exact hl)] at h2
    cases h1
    cases h2
    exact p
  · rw [List.getElem?_set_ne z] at h1 h2
    exact h.2 i x y h1 h2
@[irreducible] def dSetIx (to ti te : TDE) : TDS := fun E dl S => te dl S fun v S1 => to dl S1 fun d S2 => ti dl S2 fun i S3 => match d, i with
  | .ref n, .int k => match S3[n]? with
    | some (.lst xs) => match ixN xs.length k with
      | some j => E.nx dl (S3.set n (.lst (xs.set j v)))
      | none => False
    | _ => False
  | _, _ => False
/-- the place of the first item that is x -/
def firstEq (f : D → D → Option Bool) : List D → D → Option (Option Nat)
  | [], _ => some none
  | y :: ys, x => match f y x, firstEq f ys x with
    | some true, some _ => some (some 0)
    | some false, some o => some (o.map (· + 1))
    | _, _ => none
/-- xs.index(y), where it is there -/
def wIndex (k : Nat) (d y : D) (S : Sto) (Q : DK) : Prop := match d with
  | .ref n => match lAt S n with
    | some o => match firstEq (eqN k) (itemsOf o) y with
      | some (some j) => Q (.int (j : Int)) S
      | _ => False
    | none => False
  | _ => False
@[irreducible] def dIndex (k : Nat) (to : TDE) (t : TDA) : TDE := fun dl S Q => to dl S fun d S1 => (match d with
  | .ref n => (lAt S1 n).isSome = true ∧ t dl S1 fun ds S2 => match ds with
    | [y] => wIndex k d y S2 Q
    | _ => False
  | _ => False)
end
end L3

/-! ### for a, b in enumerate(xs), in zip(xs, ys) -/
namespace L3
open PySem PySem.Spec PyProof.Rows L2
section
variable {X : Cx} {pins : List (Addr × Obj)} {σ : St} {H : Hp} {s : Shared} {h' : Heap}
end
/-- enumerate of the list at a: (i, its i-th item), a new tuple each time -/
def Ite (K : PySem.W.Frag) (a : Addr) : It :=
  ⟨fun i H => ∃ xs x, SqL K H a xs ∧ xs[i]? = some x, fun i H x H' => ∃ T v, x = .ref T ∧ H T = none ∧ H' = upd H T (.tup [.int (i : Int), v]) ∧ ∀ xs, SqL K H a xs → xs[i]? = some v, fun i H => ∃ xs, SqL K H a xs ∧ xs.length = i⟩
section
variable {X : Cx}
def iEnum (K : PySem.W.Frag) (ta : TA) : TI := fun σ H R => ta σ H fun vs H1 => ∃ a, vs = [.ref a] ∧ (∃ xs, SqL K H1 a xs) ∧ R (Ite K a) H1
end
/-- zip of the lists at a and at b -/
def Itz (K : PySem.W.Frag) (a b : Addr) : It :=
  ⟨fun i H => ∃ xs ys x y, SqL K H a xs ∧ SqL K H b ys ∧ xs[i]? = some x ∧ ys[i]? = some y,
   fun i H x H' => ∃ T v u, x = .ref T ∧ H T = none ∧ H' = upd H T (.tup [v, u]) ∧ (∀ xs, SqL K H a xs → xs[i]? = some v) ∧ ∀ ys, SqL K H b ys → ys[i]? = some u,
   fun i H => ∃ xs ys, SqL K H a xs ∧ SqL K H b ys ∧ min xs.length ys.length = i⟩
section
variable {X : Cx}
def iZip (K : PySem.W.Frag) (ta : TA) : TI := fun σ H R => ta σ H fun vs H1 => ∃ a b, vs = [.ref a, .ref b] ∧ (∃ xs, SqL K H1 a xs) ∧ (∃ ys, SqL K H1 b ys) ∧ R (Itz K a b) H1
end
section
variable {X : Cx} {Z : Zx} {pos : Pos}
@[irreducible] def dForE (is : List Nat) (ta : TDA) (tb : TDS) : TDS := fun E dl S => ta dl S fun ds S1 => match ds with
  | [.ref n] => (lAt S1 n).isSome = true ∧ ∃ W : Nat → Nat → Ev → Sto → Prop, (∃ m, W 0 m dl S1) ∧ ∀ k m dl S, W k m dl S → match lAt S n with
    | some o => match (itemsOf o)[k]? with
      | some x => tb { nx := fun dl' S' => ∃ m', m' < m ∧ W (k + 1) m' dl' S', rt := E.rt, bk := E.nx, ct := fun dl' S' => ∃ m', m' < m ∧ W (k + 1) m' dl' S' } (setAll is [.int (k : Int), x] dl) S
      | none => k = (itemsOf o).length ∧ E.nx dl S
    | none => False
  | _ => False
@[irreducible] def dForZ (is : List Nat) (ta : TDA) (tb : TDS) : TDS := fun E dl S => ta dl S fun ds S1 => match ds with
  | [.ref n, .ref n'] => ((lAt S1 n).isSome = true ∧ (lAt S1 n').isSome = true) ∧ ∃ W : Nat → Nat → Ev → Sto → Prop, (∃ m, W 0 m dl S1) ∧ ∀ k m dl S, W k m dl S → match lAt S n, lAt S n' with
    | some o, some o' => match (itemsOf o)[k]?, (itemsOf o')[k]? with
      | some x, some y => tb { nx := fun dl' S' => ∃ m', m' < m ∧ W (k + 1) m' dl' S', rt := E.rt, bk := E.nx, ct := fun dl' S' => ∃ m', m' < m ∧ W (k + 1) m' dl' S' } (setAll is [x, y] dl) S
      | _, _ => k = min (itemsOf o).length (itemsOf o').length ∧ E.nx dl S
    | _, _ => False
  | _ => False
end
end L3

/-! ### x in a written tuple; isinstance of a list -/
namespace L3
open PySem PySem.Spec PyProof.Rows L2
section
variable {X : Cx} {Z : Zx} {pos : Pos}
def wInT (k : Nat) (neg : Bool) : W2 := fun x y S Q => match y with
  | .tup ys => match anyEq (eqN k) ys x with
    | some b => Q (.bl (if neg then !b else b)) S
    | none => False
  | _ => False
/-- isinstance(x, T) of a list of the run's own -/
@[irreducible] def dInstL (T : String) (te : TDE) : TDE := fun dl S Q => te dl S fun d S1 => match d with
  | .ref n => match S1[n]? with
    | some (.lst _) => Q (.bl (isTy "list" T)) S1
    | _ => False
  | _ => False
end
end L3

/-! ### methods as they stand; answers of isinstance, of an exception -/
namespace L3
open PySem PySem.Spec PyProof.Rows L2
/-- a method as the top has made it -/
structure Dm (K : PySem.W.Frag) (C : Addr) (m qual : Str) (st : Stmt) (ps : List Str) where
  f : Addr
  fd : FuncData
  F : Fun K m qual st f fd
  m : Meth K C m f
  b : Binds K fd ps []
/-- .. with its promise -/
structure Fm (P : Program) (w : World) (K : PySem.W.Frag) (mg : Str → Option Value) (base : Heap) (k : Nat) (C : Addr) (x : Str) (ps : List Str) (sd : Sd) where
  f : Addr
  fd : FuncData
  ok : FnOk P w K mg base (CXE P w) k f fd ps (upF K sd)
  m : Meth K C x f
  b : Binds K fd ps []
def Dm.mk' {P : Program} {w : World} {K : PySem.W.Frag} {mg : Str → Option Value} {base : Heap} {k : Nat} {C : Addr} {x qual : Str} {st : Stmt} {ps : List Str} {sd : Sd} (d : Dm K C x qual st ps) (h : FnOk P w K mg base (CXE P w) k d.f d.fd ps (upF K sd)) : Fm P w K mg base k C x ps sd :=
  ⟨d.f, d.fd, h, d.m, d.b⟩
/-- what isinstance answers of an exception of the class at c -/
def ansOf (c : Addr) (b : Bool) (d : Addr) : Option Bool := if d = c then some b else none
theorem ans_of {K : PySem.W.Frag} {c C : Addr} {y : Bool} (h : PySem.W.kitOne K (.ref c) (.ref C) = some y) (n : Nx K c) : ∀ d b, ansOf c y d = some b → PySem.W.kitOne K (.ref d) (.ref C) = some b ∧ Nx K d := fun d b e => by
  unfold ansOf at e
  split at e
  · rename_i z
    subst z
    cases e
    exact ⟨h, n⟩
  · cases e
section
variable {X : Cx} {Z : Zx}
end
end L3

/-! ### != and + of lists; methods of receivers of several classes; isinstance of an instance -/
namespace L3
open PySem PySem.Spec PyProof.Rows L2
section
variable {X : Cx} {Z : Zx} {pos : Pos}
/-- xs + ys of lists of the run's own -/
def wCat : W2 := fun x y S Q => match x, y with
  | .ref n, .ref m => match S[n]?, S[m]? with
    | some (.lst xs), some (.lst ys) => xs.length + ys.length ≤ 1000 ∧ Q (.ref S.length) (S ++ [.lst (xs ++ ys)])
    | _, _ => False
  | _, _ => False
theorem Rps.app {r : List Addr} {H : Hp} : ∀ {ds es : List D} {xs ys : List V}, Rps r H ds xs → Rps r H es ys → Rps r H (ds ++ es) (xs ++ ys)
  | [], es, xs, ys, p, q => by
    have z := p.unnil
    subst z
    exact q
  | d :: ds, es, xs, ys, p, q => by
    obtain ⟨v, vs, rfl, p1, p2⟩ := p.uncons
    exact Rps.cons p1 (p2.app q)
/-- the classes that a receiver may be of, with what the method promises there -/
def MT (X : Cx) (m : Str) (tbl : List (Addr × Sd)) : Prop := ∀ C sd, (C, sd) ∈ tbl → Cls X.K C ∧ ∃ (f : Addr) (fd : FuncData) (k : Nat) (ps : List Str), Meth X.K C m f ∧ FnOk X.prog X.w X.K X.mg X.base (CXE X.prog X.w) k f fd ps (upF X.K sd) ∧ Room k X.A ∧ Binds X.K fd ps []
/-- o.m(..), o of one of several own classes -/
@[irreducible] def dMethD (tbl : List (Addr × Sd)) (m : Str) (ex : Ev → Addr → Sto → Prop) (to : TDE) (t : TDA) : TDE := fun dl S Q => to dl S fun d S1 => ∃ n C fs sd, d = .ref n ∧ S1[n]? = some (.ins C fs) ∧ (C, sd) ∈ tbl ∧ fs.lookup m = none ∧ t dl S1 fun ds S2 => sd (d :: ds) S2 Q (ex dl)
/-- what isinstance has to know of an own class -/
structure Kx (K : PySem.W.Frag) (C : Addr) : Prop where
  cl : Cls K C
  ha : PySem.W.findIn K (.ref C) "__class__" = some (some (.builtin "object.__class__"))
  hn : PySem.W.specialIn K (.builtin "object.__class__") "__get__" = some (some (.builtin "getset_descriptor.__get__"))
  ht : PySem.W.takesIn K (.builtin "object.__class__") = some true
  hm : PySem.W.mroIn K C (.type "object") = some true
def KT (K : PySem.W.Frag) (cv : Value) (ans : List (Addr × Bool)) : Prop := ∀ C b, (C, b) ∈ ans → PySem.W.kitOne K (.ref C) cv = some b ∧ Kx K C
@[irreducible] def dInstO (ans : List (Addr × Bool)) (te : TDE) : TDE := fun dl S Q => te dl S fun d S1 => ∃ n C fs b, d = .ref n ∧ S1[n]? = some (.ins C fs) ∧ (C, b) ∈ ans ∧ Q (.bl b) S1
def rInstO (K : PySem.W.Frag) (vc : V) (cv : Value) : List V → Hp → VK → Prop := fun xs H Qv => ∃ a C dx fs b, xs = [.ref a, vc] ∧ H a = some (.ins C dx fs) ∧ PySem.W.kitOne K (.ref C) cv = some b ∧ Kx K C ∧ Qv (.bl b) H
end
end L3

/-! ### texts of numbers: str, int, zfill, startswith, partition, join of a reversed list -/
namespace L3
open PySem PySem.Spec PyProof.Rows L2
section
variable {X : Cx} {Z : Zx}
/-- str(i) -/
def wStrI : WC := fun ds S Q => match ds with
  | [.int i] => i.natAbs.log2 < 1920 ∧ Q (.str (Str.ofString (toString i))) S
  | _ => False
theorem call_strI : CallR X (.type "str") (fun xs H Q => ∃ i : Int, xs = [.int i] ∧ i.natAbs.log2 < 1920 ∧ Q (.str (Str.ofString (toString i))) H) := by
  intro pins s σ H xs us Q I r h
  obtain ⟨i, rfl, hi, q⟩ := h
  obtain ⟨u, rfl, rx⟩ := vals1 r
  obtain ⟨t, rfl⟩ := rx
  exact PySem.P.str_of_int hi ⟨.str _, H, I.tok _, ⟨_, rfl⟩, q⟩
theorem dc_strI : CallR X (.type "str") (upC X.K Z wStrI) := CallRimp call_strI fun xs H Qv ⟨r, S, ds, Q, rel, ps, q, ret⟩ => by
  unfold wStrI at q
  split at q
  · rename_i i
    obtain ⟨v, vs, rfl, p1, p2⟩ := ps.uncons
    have z := p2.unnil
    subst z
    cases p1
    exact ⟨i, rfl, q.1, ret _ _ _ _ _ Ext.refl rel (.str _) q.2⟩
  · exact q.elim
theorem strI_at {i : Int} {S : Sto} {Q : DK} (h : i.natAbs.log2 < 1920) (hq : Q (.str (Str.ofString (toString i))) S) : irr wStrI [.int i] S Q := by rw [irr_eq]; exact ⟨h, hq⟩
/-- int(x) of a text -/
def wIntS : WC := fun ds S Q => match ds with
  | [.str x] => ∃ n, PySem.intText? x = some n ∧ x.length ≤ 640 ∧ Q (.int n) S
  | _ => False
theorem call_intS : CallR X (.type "int") (fun xs H Q => ∃ x n, xs = [.str x] ∧ PySem.intText? x = some n ∧ x.length ≤ 640 ∧ Q (.int n) H) := by
  intro pins s σ H xs us Q I r h
  obtain ⟨x, n, rfl, hn, hl, q⟩ := h
  obtain ⟨u, rfl, rx⟩ := vals1 r
  obtain ⟨t, rfl⟩ := rx
  exact PySem.W.KIN.call_text hn hl ⟨.int n, H, I.tok _, ⟨_, rfl⟩, q⟩
theorem dc_intS : CallR X (.type "int") (upC X.K Z wIntS) := CallRimp call_intS fun xs H Qv ⟨r, S, ds, Q, rel, ps, q, ret⟩ => by
  unfold wIntS at q
  split at q
  · rename_i x
    obtain ⟨n, q1, q2, q3⟩ := q
    obtain ⟨v, vs, rfl, p1, p2⟩ := ps.uncons
    have z := p2.unnil
    subst z
    cases p1
    exact ⟨x, n, rfl, q1, q2, ret _ _ _ _ _ Ext.refl rel (.int _) q3⟩
  · exact q.elim
theorem intS_at {x : Str} {n : Int} {S : Sto} {Q : DK} (h : PySem.intText? x = some n) (hl : x.length ≤ 640) (hq : Q (.int n) S) : irr wIntS [.str x] S Q := by rw [irr_eq]; exact ⟨n, h, hl, hq⟩
/-- a method of a text with one argument: what it makes of both -/
@[irreducible] def dTxt1 (w : Str → D → Sto → DK → Prop) (to : TDE) (t : TDA) : TDE := fun dl S Q => to dl S fun d S1 => match d with
  | .str x => t dl S1 fun ds S2 => match ds with
    | [y] => w x y S2 Q
    | _ => False
  | _ => False
def wZfill : Str → D → Sto → DK → Prop := fun x y S Q => match y with
  | .int i => (0 ≤ i ∧ i ≤ 1000) ∧ Q (.str (Txt.zfill x i)) S
  | _ => False
def wStarts : Str → D → Sto → DK → Prop := fun x y S Q => match y with
  | .str z => Q (.bl (Txt.startswith x z)) S
  | _ => False
def wPart : Str → D → Sto → DK → Prop := fun x y S Q => match y with
  | .str z => (z.length ≠ 0 ∧ x.length ≤ 1000) ∧ Q (.tup [.str (Txt.partition x z).1, .str (Txt.partition x z).2.1, .str (Txt.partition x z).2.2]) S
  | _ => False
theorem txt1_at {w : Str → D → Sto → DK → Prop} {to : TDE} {t : TDA} {dl : Ev} {S S1 S2 : Sto} {Q : DK} {x : Str} {y : D} (hto : ∀ K : DK, K (.str x) S1 → to dl S K) (ht : ∀ K : List D → Sto → Prop, K [y] S2 → t dl S1 K) (hq : w x y S2 Q) : dTxt1 w to t dl S Q := by
  unfold dTxt1
  exact hto _ (ht _ hq)
theorem mt_zfill : MtR X "str.zfill" (fun x xs H Q => ∃ z i, x = .str z ∧ xs = [.int i] ∧ (0 ≤ i ∧ i ≤ 1000) ∧ Q (.str (Txt.zfill z i)) H) := by
  intro pins s σ H x xs v us Q I rx rv h
  obtain ⟨z, i, rfl, rfl, hi, q⟩ := h
  obtain ⟨t, rfl⟩ := rx
  obtain ⟨u, rfl, ru⟩ := vals1 rv
  obtain ⟨t2, rfl⟩ := ru
  refine PySem.W.KXw.zfill (y := Txt.zfill z i) rfl ?_ fun t' k => ⟨.str _, H, I.kept (t' := k) fun b o e => e, ⟨t', rfl⟩, q⟩
  have l : i.toNat ≤ sizeLine := size1000 (by omega)
  unfold PadOk fitsSsize Builtin.Str.tooLong
  rw [Bool.and_eq_true, Bool.not_eq_true', Bool.not_eq_true', decide_eq_false (show ¬ i < -(2 ^ 63 : Int) by omega), decide_eq_false (show ¬ i ≥ (2 ^ 63 : Int) by omega), decide_eq_false (by omega)]
  exact ⟨rfl, rfl⟩
theorem mt_starts : MtR X "str.startswith" (fun x xs H Q => ∃ z y, x = .str z ∧ xs = [.str y] ∧ Q (.bl (Txt.startswith z y)) H) := by
  intro pins s σ H x xs v us Q I rx rv h
  obtain ⟨z, y, rfl, rfl, q⟩ := h
  obtain ⟨t, rfl⟩ := rx
  obtain ⟨u, rfl, ru⟩ := vals1 rv
  obtain ⟨t2, rfl⟩ := ru
  exact PySem.SC.startswith ⟨.bl _, H, I, rfl, q⟩
theorem mt_part : MtR X "str.partition" (fun x xs H Q => ∃ z y, x = .str z ∧ xs = [.str y] ∧ (y.length ≠ 0 ∧ z.length ≤ 1000) ∧ ∀ p, H p = none → Q (.ref p) (upd H p (.tup [.str (Txt.partition z y).1, .str (Txt.partition z y).2.1, .str (Txt.partition z y).2.2]))) := by
  intro pins s σ H x xs v us Q I rx rv h
  obtain ⟨z, y, rfl, rfl, ⟨hy, hz⟩, q⟩ := h
  obtain ⟨t, rfl⟩ := rx
  obtain ⟨u, rfl, ru⟩ := vals1 rv
  obtain ⟨t2, rfl⟩ := ru
  refine call_meets PySem.F.slot_str_partition (typeIs_str _ _ _) PySem.F.entry_str_partition (PySem.F.args_str_partition_2 _ _) (meets_str_partition z y t t2 (by simpa using hy) (size1000 hz)) ?_
  have q' := q
  unfold Txt.partition at q'
  revert q'
  cases Builtin.Str.occurrences z y 0 z.length 1 with
  | nil =>
    intro q'
    refine ⟨.ref s.heap.objs.size, _, I.laid (o := .tup [.str z, .str Str.empty, .str Str.empty]) (fun b ob e => Heap.get?_push_of_some _ e) (Nat.le_refl _) ?_, rfl, q' _ (I.hok.fresh (Nat.le_refl _))⟩
    exact ⟨size1000 (by simp), _, .cons ⟨_, rfl⟩ (.cons ⟨_, rfl⟩ (.cons ⟨_, rfl⟩ .nil)), IsTup.new _ _⟩
  | cons i r =>
    intro q'
    refine ⟨.ref s.heap.objs.size, _, I.laid (o := .tup [.str (Builtin.Str.strSub z 0 i), .str y, .str (Builtin.Str.strSub z (i + y.length) z.length)]) (fun b ob e => Heap.get?_push_of_some _ e) (Nat.le_refl _) ?_, rfl, q' _ (I.hok.fresh (Nat.le_refl _))⟩
    exact ⟨size1000 (by simp), _, .cons ⟨_, rfl⟩ (.cons ⟨_, rfl⟩ (.cons ⟨_, rfl⟩ .nil)), IsTup.new _ _⟩
theorem pd_zfill {o e : Expr} {to : TDE} {t : TDA} {apos cpos : Pos} (ho : PD X Z o to) (ha : PDA X Z [e] t) (hbase : attributeBase o "zfill" X.env (eval o X.env) = eval o X.env := by rfl)
    (hfew : ((backTo cpos (starEach [e] X.env)).all (fun x => !x.1) && (backToKw cpos (keywordEach [] X.env)).all (fun x => x.1.isSome)
      && decide ([e].length + ([] : List Keyword).length + (if ([] : List Keyword).isEmpty then 0 else 1) < 30)) = true := by rfl)
    (hline : (apos.endLine == cpos.line) = true := by rfl) (hs : starEach [e] X.env = (false, eval e X.env) :: starEach [] X.env := by rfl) (hplain : (backTo cpos (starEach [] X.env)).any (·.1) = false := by rfl) :
    PD X Z (.Call (.Attribute o "zfill" apos) [e] [] cpos) (dTxt1 wZfill to t) :=
  PEimp (pe_bm (T := "str") PySem.F.plainAttrs_str PySem.F.slot_str_zfill PySem.F.type_str_zfill mt_zfill ho ha hbase hfew hline hs hplain) fun σ H Qv ⟨r, dl, S, Q, rs, rel, h, ret⟩ => by
    unfold dTxt1 at h
    refine ⟨r, dl, S, _, rs, rel, h, fun v H1 r1 d S1 e1 rel1 p1 q1 => ?_⟩
    cases p1 with
    | str x =>
      refine ⟨rfl, r1, dl, S1, _, rs.ext e1, rel1, q1, fun vs H2 r2 ds S2 e2 rel2 p2 q2 => ?_⟩
      split at q2
      · rename_i y
        obtain ⟨v2, vs', rfl, p3, p4⟩ := p2.uncons
        have z := p4.unnil
        subst z
        unfold wZfill at q2
        split at q2
        · rename_i i
          cases p3
          exact ⟨x, i, rfl, rfl, q2.1, ret _ H2 r2 _ S2 (e1.trans e2) rel2 (.str _) q2.2⟩
        · exact q2.elim
      · exact q2.elim
    | _ => exact (show False from q1).elim
theorem pd_starts {o e : Expr} {to : TDE} {t : TDA} {apos cpos : Pos} (ho : PD X Z o to) (ha : PDA X Z [e] t) (hbase : attributeBase o "startswith" X.env (eval o X.env) = eval o X.env := by rfl)
    (hfew : ((backTo cpos (starEach [e] X.env)).all (fun x => !x.1) && (backToKw cpos (keywordEach [] X.env)).all (fun x => x.1.isSome)
      && decide ([e].length + ([] : List Keyword).length + (if ([] : List Keyword).isEmpty then 0 else 1) < 30)) = true := by rfl)
    (hline : (apos.endLine == cpos.line) = true := by rfl) (hs : starEach [e] X.env = (false, eval e X.env) :: starEach [] X.env := by rfl) (hplain : (backTo cpos (starEach [] X.env)).any (·.1) = false := by rfl) :
    PD X Z (.Call (.Attribute o "startswith" apos) [e] [] cpos) (dTxt1 wStarts to t) :=
  PEimp (pe_bm (T := "str") PySem.F.plainAttrs_str PySem.F.slot_str_startswith PySem.F.type_str_startswith mt_starts ho ha hbase hfew hline hs hplain) fun σ H Qv ⟨r, dl, S, Q, rs, rel, h, ret⟩ => by
    unfold dTxt1 at h
    refine ⟨r, dl, S, _, rs, rel, h, fun v H1 r1 d S1 e1 rel1 p1 q1 => ?_⟩
    cases p1 with
    | str x =>
      refine ⟨rfl, r1, dl, S1, _, rs.ext e1, rel1, q1, fun vs H2 r2 ds S2 e2 rel2 p2 q2 => ?_⟩
      split at q2
      · rename_i y
        obtain ⟨v2, vs', rfl, p3, p4⟩ := p2.uncons
        have z := p4.unnil
        subst z
        unfold wStarts at q2
        split at q2
        · rename_i i
          cases p3
          exact ⟨x, i, rfl, rfl, ret _ H2 r2 _ S2 (e1.trans e2) rel2 (.bl _) q2⟩
        · exact q2.elim
      · exact q2.elim
    | _ => exact (show False from q1).elim
theorem pd_part {o e : Expr} {to : TDE} {t : TDA} {apos cpos : Pos} (ho : PD X Z o to) (ha : PDA X Z [e] t) (hbase : attributeBase o "partition" X.env (eval o X.env) = eval o X.env := by rfl)
    (hfew : ((backTo cpos (starEach [e] X.env)).all (fun x => !x.1) && (backToKw cpos (keywordEach [] X.env)).all (fun x => x.1.isSome)
      && decide ([e].length + ([] : List Keyword).length + (if ([] : List Keyword).isEmpty then 0 else 1) < 30)) = true := by rfl)
    (hline : (apos.endLine == cpos.line) = true := by rfl) (hs : starEach [e] X.env = (false, eval e X.env) :: starEach [] X.env := by rfl) (hplain : (backTo cpos (starEach [] X.env)).any (·.1) = false := by rfl) :
    PD X Z (.Call (.Attribute o "partition" apos) [e] [] cpos) (dTxt1 wPart to t) :=
  PEimp (pe_bm (T := "str") PySem.F.plainAttrs_str PySem.F.slot_str_partition PySem.F.type_str_partition mt_part ho ha hbase hfew hline hs hplain) fun σ H Qv ⟨r, dl, S, Q, rs, rel, h, ret⟩ => by
    unfold dTxt1 at h
    refine ⟨r, dl, S, _, rs, rel, h, fun v H1 r1 d S1 e1 rel1 p1 q1 => ?_⟩
    cases p1 with
    | str x =>
      refine ⟨rfl, r1, dl, S1, _, rs.ext e1, rel1, q1, fun vs H2 r2 ds S2 e2 rel2 p2 q2 => ?_⟩
      split at q2
      · rename_i y
        obtain ⟨v2, vs', rfl, p3, p4⟩ := p2.uncons
        have z := p4.unnil
        subst z
        unfold wPart at q2
        split at q2
        · rename_i i
          cases p3
          refine ⟨x, i, rfl, rfl, q2.1, fun p hp => ?_⟩
          have x3 : Ext r2 r2 H2 (upd H2 p (.tup [.str (Txt.partition x i).1, .str (Txt.partition x i).2.1, .str (Txt.partition x i).2.2])) := ext_upd hp
          have pp : Rps r2 (upd H2 p (.tup [.str (Txt.partition x i).1, .str (Txt.partition x i).2.1, .str (Txt.partition x i).2.2])) [.str (Txt.partition x i).1, .str (Txt.partition x i).2.1, .str (Txt.partition x i).2.2] [.str (Txt.partition x i).1, .str (Txt.partition x i).2.1, .str (Txt.partition x i).2.2] := Rps.cons (.str _) (Rps.cons (.str _) (Rps.cons (.str _) Rps.nil))
          exact ret _ _ r2 _ S2 (e1.trans (e2.trans x3)) (rel2.same (same_upd hp)) (.tup upd_same pp.1 pp.2) q2.2
        · exact q2.elim
      · exact q2.elim
    | _ => exact (show False from q1).elim
end
end L3

/-! ### "".join(reversed(xs)) -/
namespace L3
open PySem PySem.Spec PyProof.Rows L2
theorem lri_nolen : typeLookup (.type "list_reverseiterator") "__len__" = pure none := by rw [typeLookup_type, builtinLookup_eq_fast]; kernel_rfl
theorem lri_hint : typeLookup (.type "list_reverseiterator") "__length_hint__" = pure (some (.builtin "list_reverseiterator.__length_hint__")) := by rw [typeLookup_type, builtinLookup_eq_fast]; kernel_rfl
section
variable {n : Nat} {I : Addr} {fp wr : List Addr} {P : Nat → Value → Prop} {St : Nat → Shared → Prop} {prog : Program} {w : World} {A : Around} {s : Shared} {E : Value → Shared → Prop} {G : Array GenState → Array GenState → Prop}
/-- a reversed list's items, collected -/
theorem collect_rev {Q : List Value → Shared → Prop} (W : WalksS prog w A.in1 I fp wr G n P St) (hT : ∀ i s, St i s → s.TypeIs (.ref I) "list_reverseiterator") (hst : St 0 s) (hfp : ∀ b ∈ fp, b < s.heap.objs.size) (hI : I ∈ fp)
    (hQ : ∀ s' acc, Moved wr G s s' → s.heap.objs.size ≤ s'.heap.objs.size → ItemsOf P acc n → Q acc.toList s') (hn : n ≤ sizeLine) : wpAny (model prog w) A (collect (.ref I)) Q E s := by
  have off : s.heap.objs.size ∉ fp := fun z => absurd (hfp _ z) (Nat.lt_irrefl _)
  have offI : s.heap.objs.size ≠ I := fun z => off (by rw [z]; exact hI)
  have neS : Builtin.List.listSameRef (.ref s.heap.objs.size) (.ref I) = false := by simp [Builtin.List.listSameRef, offI]
  unfold collect
  refine wpAny_bind (wpAny_runValue (codeAny_builtin PySem.F.entry_proto_collect ?_))
  rewrite [Around.under_plainId PySem.F.plain_proto_collect _]
  refine wpAny_bind (wpAny_newObj_type ?_) (m := newList [])
  refine wpAny_pure ⟨plainId_quiet PySem.F.plain_list_iadd _, codeAny_builtin PySem.F.entry_list_iadd ?_⟩
  rewrite [Around.under_plainId PySem.F.plain_list_iadd _]
  have st1 := W.frame 0 s (s.heap.push { cls := .type "list", data := .seq ([] : List Value).toArray }) s.toks hst (Nat.le_refl _) (fun b _ o e => Heap.get?_push_of_some _ e)
  have new1 : (s.heap.push { cls := .type "list", data := .seq ([] : List Value).toArray }).get? s.heap.objs.size = some { cls := .type "list", data := .seq ([] : List Value).toArray } := Heap.get?_push_size _ (by rfl)
  change wpAny _ A.in1 (Builtin.List.listExtendWith (.ref s.heap.objs.size) (.ref I) (.ref s.heap.objs.size)) _ _ _
  unfold Builtin.List.listExtendWith; refine wpAny_bind (wpAny_typeOf (hT 0 _ st1) ?_)
  rw [if_neg (by rw [neS]; decide)]
  refine wpAny_bind (W.self 0 _ _ _ st1 (wpAny_bind (wpAny_holding ?_)))
  unfold Builtin.List.listLengthHint; refine wpAny_bind (wpAny_specialOf (hT 0 _ st1) lri_nolen ?_)
  change wpAny _ A.in1 (specialOf (Value.ref I) (Str.ofString "__length_hint__") >>= _) _ _ _
  refine wpAny_bind (wpAny_specialOf (hT 0 _ st1) lri_hint ?_)
  generalize hid : ("list_reverseiterator.__length_hint__" : String) = nm
  wp_delta
  have two : splitId nm = some ("list_reverseiterator", "__length_hint__") := by subst hid; decide +kernel
  rw [two]
  subst hid
  refine wpAny_bind (wpAny_isInstance (T := "list_reverseiterator") (b := true) (hT 0 _ st1) (by rw [isSubtype_type]; kernel_rfl) ?_)
  refine wpAny_pure ?_
  rw [if_neg (by decide)]
  refine wpAny_pure ⟨plainId_quiet PySem.F.plain_extend_loop _, codeAny_extend_loopS W hn _ off _ n 0 _ _ _ rfl (Nat.zero_le _) st1 new1 (ItemsOf.nil P) fun s' acc' c' hm hS' hacc => ?_⟩
  refine wpAny_bind (m := load s.heap.objs.size) (wpAny_load hS' ?_)
  exact wpAny_pure (hQ s' acc' (Moved.drop_new (o := { cls := .type "list", data := .seq ([] : List Value).toArray }) (tk := s.toks) hm (Nat.le_refl _)) (Nat.le_of_lt (Heap.lt_size hS')) hacc)
theorem join_rev {x : Str} {t : Tok} {Q : Value → Shared → Prop} (W : WalksS prog w A.in1.in1 I fp wr G n P St) (hT : ∀ i s, St i s → s.TypeIs (.ref I) "list_reverseiterator") (hst : St 0 s) (hfp : ∀ b ∈ fp, b < s.heap.objs.size) (hI : I ∈ fp) (hstr : ∀ i v, P i v → ∃ y u, v = Value.str y u)
    (hq : ∀ s' (l : List (Str × Tok)), Moved wr G s s' → s.heap.objs.size ≤ s'.heap.objs.size → ItemsOf P (strValues l).toArray n → JoinOk x (l.map (·.1)) = true ∧ ∀ t' k, Q (.str (Txt.join x (l.map (·.1))) t') { s' with toks := k }) (hsz : n ≤ sizeLine) : wpAny (model prog w) A (call (.builtin "str.join") [.str x t, .ref I]) Q E s := by
  refine wpAny_call (codeAny_call_builtin PySem.F.slot_str_join.plain PySem.F.entry_str_join (PySem.F.slot_str_join.check _ _ _ _ _ _ _ _ (typeIs_str _ _ _) (PySem.F.args_str_join_2 _ _) ?_))
  rw [join_tree_other]; refine wpAny_bind (wpAny_typeOf (hT 0 s hst) ?_)
  show wpAny _ A.in1 ((pyIter (.ref I)).tryCatch _ >>= fun it => collect it >>= fun xs => joinTail x xs) _ _ s
  refine wpAny_bind (wpAny_tryCatch (W.of_in1.self 0 s _ _ hst (wpAny_bind (collect_rev W hT hst hfp hI (fun s' acc hm hm2 hacc => ?_) hsz))))
  obtain ⟨l, hl⟩ := exists_strValues acc.toList fun v0 hv0 => by
    obtain ⟨k0, hk0, rfl⟩ := Array.mem_iff_getElem.mp (Array.mem_toList_iff.mp hv0)
    exact hstr k0 _ (hacc.2 k0 _ (Array.getElem?_eq_getElem hk0))
  rw [← hl]
  obtain ⟨hok, hpost⟩ := hq s' l hm hm2 (by rw [hl]; simpa using hacc)
  have fits : Builtin.Str.tooLong ((l.map (·.1)).toArray.foldl (· + ·.length + x.length) 0) = false := by
    unfold JoinOk at hok
    simpa using hok
  have gv : Gives (joinTail x (strValues l)) (joinMade x l) := by
    have z := gives_joinTail x l fits
    cases l with
    | nil => exact z
    | cons p r =>
      cases r with
      | nil => exact z
      | cons q r' => exact z
  exact gv prog w A (wants Q E) s' (post_join l ⟨joinFit_length fits, hpost⟩)
end
/-- a reversed list's walk, as it stands at its beginning -/
def revO (B : Nat) (p l : Addr) (n : Nat) : HO := .ext fun h => h.IsRevIter p l ((n : Int) - 1) ∧ B ≤ p
def dropA (H : Hp) (p : Addr) : Hp := fun a => if a = p then none else H a
theorem dropA_ne {H : Hp} {p a : Addr} (h : a ≠ p) : dropA H p a = H a := if_neg h
theorem dropA_same {H : Hp} {p : Addr} : dropA H p p = none := if_pos rfl
section
variable {X : Cx} {Z : Zx}
theorem call_rev : CallR X (.type "reversed") (fun xs H Q => ∃ l ys, xs = [.ref l] ∧ H l = some (.lst ys) ∧ ∀ p, H p = none → Q (.ref p) (upd H p (revO X.s₀.heap.objs.size p l ys.length))) := by
  intro pins s σ H xs us Q I r h
  obtain ⟨l, ys, rfl, hH, q⟩ := h
  obtain ⟨u, rfl, rx⟩ := vals1 r
  cases rx
  obtain ⟨z, its, n, rv, hl, e⟩ := I.lstM hH
  have il : s.heap.IsList l its.toArray := ⟨_, e, rfl, n, rfl⟩
  refine call_reversed_list il ?_
  have en : ((its.toArray.size : Nat) : Int) - 1 = ((ys.length : Nat) : Int) - 1 := by rw [List.size_toArray, rv.length]
  rw [en]
  refine ⟨.ref s.heap.objs.size, _, I.laid (t' := s.toks) (o := revO X.s₀.heap.objs.size s.heap.objs.size l ys.length) (fun b ob e => Heap.get?_push_of_some _ e) (Nat.le_refl _) ?_, rfl, q _ (I.hok.fresh (Nat.le_refl _))⟩
  exact ⟨⟨⟨_, Heap.get?_push_size _ rfl, rfl, rfl⟩, I.sz⟩, ⟨_, Heap.get?_push_size _ rfl⟩, fun h1 h2 x k => ⟨x.1.at fun o e => k o e, x.2⟩⟩
theorem mt_joinR (hc : X.calm = true) : MtR X "str.join" (fun x xs H Q => ∃ sep p l ys zs, x = .str sep ∧ xs = [.ref p] ∧ H p = some (revO X.s₀.heap.objs.size p l ys.length) ∧ H l = some (.lst ys) ∧ (∀ us, Vals ys us → StrsAre us zs) ∧ sep.length = 0 ∧ (∀ z ∈ zs, z.length ≤ 200) ∧ zs.length ≤ 5 ∧ Q (.str (flat zs.reverse)) (dropA H p)) := by
  intro pins s σ H x xs v us Q I rx rv h
  obtain ⟨sep, p, l, ys, zs, rfl, rfl, hp, hl, st, h0, hB, hn, q⟩ := h
  obtain ⟨t, rfl⟩ := rx
  obtain ⟨u, rfl, ru⟩ := vals1 rv
  cases ru
  obtain ⟨z, its, n, rv, hz, e⟩ := I.lstM hl
  have sr := st its rv
  have il : s.heap.IsList l its.toArray := ⟨_, e, rfl, n, rfl⟩
  have ok : ObjOk X.prog X.w H s.heap p (revO X.s₀.heap.objs.size p l ys.length) := I.hok p _ hp
  obtain ⟨⟨ir, above⟩, ⟨op, ep⟩, _⟩ := ok
  have ne : l ≠ p := ne_of hl hp (by intro z; cases z)
  have ln : its.length = ys.length := rv.length.symm
  have W := (Walks.listRev (prog := X.prog) (w := X.w) (A := X.A.in1.in1) (I.ok.hd hc) p l ne its.toArray).toS
  have s0 : (0 : Nat) ≤ its.toArray.size ∧ s.heap.IsRevIter p l ((its.toArray.size : Int) - 1 - ((0 : Nat) : Int)) ∧ s.heap.IsList l its.toArray := ⟨Nat.zero_le _, by
    have e2 : ((its.toArray.size : Nat) : Int) - 1 - ((0 : Nat) : Int) = ((ys.length : Nat) : Int) - 1 := by rw [List.size_toArray, ln]; omega
    rw [e2]; exact ir, il⟩
  refine join_rev W (fun i s st => st.2.1.typeIs) s0 (fun b hb => ?_) (by simp) (fun i v hv => ?_) (fun s' ls hm hm2 hi => ?_) (by rw [List.size_toArray]; omega)
  · have z : b = p ∨ b = l := by simpa using hb
    rcases z with rfl | rfl
    · exact Heap.lt_size ep
    · exact Heap.lt_size e
  · have hv' : its[its.length - 1 - i]? = some v := by simpa using hv
    obtain ⟨y, u, rfl, _⟩ := sr.item _ _ hv'
    exact ⟨y, u, rfl⟩
  · have lz : zs.length = its.length := sr.len_eq.symm
    have ll : ls.length = its.length := by
      have z := hi.1
      simpa [strValues] using z
    have em : ls.map (·.1) = zs.reverse := by
      refine List.ext_getElem? fun j => ?_
      by_cases hj : j < ls.length
      · have e1 := List.getElem?_eq_getElem hj
        have e2 : (strValues ls).toArray[j]? = some (.str ls[j].1 ls[j].2) := by simp [strValues, hj]
        have e3 := hi.2 j _ e2
        have e4 : its[its.length - 1 - j]? = some (.str ls[j].1 ls[j].2) := by simpa using e3
        obtain ⟨y, u, ey, e5⟩ := sr.item _ _ e4
        cases ey
        rw [List.getElem?_map, e1, List.getElem?_reverse (by omega), lz, e5]
        rfl
      · rw [List.getElem?_eq_none (by simp; omega), List.getElem?_eq_none (by simp; omega)]
    rw [em]
    refine ⟨?_, fun t' k => ?_⟩
    · have sum : ∀ (ws : List Str) (a : Nat), (∀ z ∈ ws, z.length ≤ 200) → ws.foldl (fun n z => n + z.length + sep.length) a ≤ a + 200 * ws.length := fun ws => by
        induction ws with
        | nil => intro a _; simp
        | cons z ws ih =>
          intro a hw
          have h1 := hw z (by simp)
          have h2 := ih (a + z.length + sep.length) (fun y hy => hw y (by simp [hy]))
          simp only [List.length_cons, List.foldl_cons]
          omega
      have b := sum zs.reverse 0 (fun z hz => hB z (by simpa using hz))
      unfold JoinOk Builtin.Str.tooLong
      rw [List.foldl_toArray, decide_eq_false (Nat.not_lt.mpr (Nat.le_trans b (size1000 (by rw [List.length_reverse]; omega))))]
      rfl
    · rw [join_flat sep h0]
      obtain ⟨h', g', d', k', o'⟩ := s'
      obtain ⟨m1, m2, m3, m4, m5⟩ := hm
      dsimp only at m2 m3 m4
      subst m2 m3 m4
      have np : ∀ b u, H b = some u → (∀ φ, u ≠ HO.ext φ) → b ≠ p := fun b u e n z => by
        subst z
        rw [hp] at e
        cases e
        exact n _ rfl
      have I1 : Inv X pins σ (dropA H p) { s with heap := s.heap, toks := s.toks } := I.un ⟨fun b o e _ _ _ => e, fun b o e _ _ _ => ⟨o.slots, e⟩, fun b o _ n _ => by
          unfold dropA
          split
          · rfl
          · exact n, fun b o e _ => ⟨o, e⟩, fun b xs e => by rw [dropA_ne (np b _ e fun φ => by simp)]; exact e, fun b o u e => by rw [dropA_ne (np b _ e fun φ => by simp)]; exact e, fun b qs e => ⟨#[], by rw [dropA_ne (np b _ e fun φ => by simp), e]; simp⟩⟩ (fun b u e => by
          unfold dropA at e
          split at e
          · cases e
          · rename_i hb
            exact (I.hok b u e).stay (fun _ _ _ q => q) (fun c e2 => by rw [dropA_ne (np c _ e2 fun φ => by simp)]; exact e2) (fun c xs e2 => by rw [dropA_ne (np c _ e2 fun φ => by simp)]; exact e2))
      have pl : p ≠ X.env.locals := fun z => by
        have := I.free
        rw [← z, hp] at this
        cases this
      have I2 := I1.turned (it := p) (h' := h') (t' := k) (fun b o hb e => m1 b o (by simpa using hb) e) dropA_same pl (.inr above) (fun x c e z => by
          have := I.freeC x c e
          rw [z, hp] at this
          cases this) (fun q hq z => by
          have := (I.pin q hq).2.1
          rw [z, hp] at this
          cases this)
      exact ⟨.str (flat zs.reverse), _, I2, ⟨t', rfl⟩, q⟩
theorem drop_upd {H : Hp} {p : Addr} {o : HO} (h : H p = none) : dropA (upd H p o) p = H := by
  funext a
  unfold dropA
  split
  · rename_i e
    rw [e, h]
  · rename_i e
    exact upd_ne e
@[irreducible] def dJoinR (to te : TDE) : TDE := fun dl S Q => to dl S fun d S1 => match d with
  | .str sep => te dl S1 fun x S2 => match x with
    | .ref n => match S2[n]? with
      | some (.lst ds) => ∃ zs, strsOf ds = some zs ∧ sep.length = 0 ∧ (∀ z ∈ zs, z.length ≤ 200) ∧ zs.length ≤ 5 ∧ Q (.str (flat zs.reverse)) S2
      | _ => False
    | _ => False
  | _ => False
theorem joinR_at {to te : TDE} {dl : Ev} {S S1 S2 : Sto} {Q : DK} {sep : Str} {n : Nat} {ds : List D} {zs : List Str} (hto : ∀ K : DK, K (.str sep) S1 → to dl S K) (hte : ∀ K : DK, K (.ref n) S2 → te dl S1 K) (h : S2[n]? = some (.lst ds)) (hz : strsOf ds = some zs) (h0 : sep.length = 0) (hB : ∀ z ∈ zs, z.length ≤ 200) (hn : zs.length ≤ 5) (hq : Q (.str (flat zs.reverse)) S2) : dJoinR to te dl S Q := by
  unfold dJoinR
  refine hto _ (hte _ ?_)
  simp only [h]
  exact ⟨zs, hz, h0, hB, hn, hq⟩
theorem pd_joinR {o e : Expr} {to te : TDE} {apos cpos p pos2 : Pos} (hc : X.calm = true) (hg : Gl X "reversed") (hm : X.mg "reversed" = none) (hv : bootBuiltins "reversed" = some (.type "reversed")) (ho : PD X Z o to) (he : PD X Z e te)
    (hbase : attributeBase o "join" X.env (eval o X.env) = eval o X.env := by rfl)
    (hfew : ((backTo cpos (starEach [.Call (.Name "reversed" p) [e] [] pos2] X.env)).all (fun x => !x.1) && (backToKw cpos (keywordEach [] X.env)).all (fun x => x.1.isSome)
      && decide (([.Call (.Name "reversed" p) [e] [] pos2] : List Expr).length + ([] : List Keyword).length + (if ([] : List Keyword).isEmpty then 0 else 1) < 30)) = true := by rfl)
    (hline : (apos.endLine == cpos.line) = true := by rfl) (hs : starEach [.Call (.Name "reversed" p) [e] [] pos2] X.env = (false, eval (.Call (.Name "reversed" p) [e] [] pos2) X.env) :: starEach [] X.env := by rfl) (hplain : (backTo cpos (starEach [] X.env)).any (·.1) = false := by rfl)
    (hs2 : starEach [e] X.env = (false, eval e X.env) :: starEach [] X.env := by rfl) (hpl2 : (backTo pos2 (starEach [] X.env)).any (·.1) = false := by rfl) :
    PD X Z (.Call (.Attribute o "join" apos) [.Call (.Name "reversed" p) [e] [] pos2] [] cpos) (dJoinR to te) :=
  PEimp (pe_bm (T := "str") PySem.F.plainAttrs_str PySem.F.slot_str_join PySem.F.type_str_join (mt_joinR hc) ho (pa_cons (pe_callTy call_rev hg hm hv (pa_cons he pa_nil hs2) (by decide) (by decide) hs2 hpl2) pa_nil hs) hbase hfew hline hs hplain) fun σ H Qv ⟨r, dl, S, Q, rs, rel, h, ret⟩ => by
    unfold dJoinR at h
    refine ⟨r, dl, S, _, rs, rel, h, fun v H1 r1 d S1 e1 rel1 p1 q1 => ?_⟩
    cases p1 with
    | str sep =>
      refine ⟨rfl, r1, dl, S1, _, rs.ext e1, rel1, q1, fun v2 H2 r2 x S2 e2 rel2 p2 q2 => ?_⟩
      cases p2 with
      | @ref n a hn =>
        dsimp only at q2
        split at q2
        · rename_i ds eS
          obtain ⟨zs, z1, z2, z3, z4, q⟩ := q2
          obtain ⟨ys, eH, pr⟩ := rel2.b.ob n a _ hn eS
          refine ⟨a, ys, rfl, eH, fun b hb => ?_⟩
          have nb : a ≠ b := ne_of_none eH hb
          refine ⟨sep, b, a, ys, zs, rfl, rfl, upd_same, by rw [upd_ne nb]; exact eH, fun us ru => strs_vals z1 pr ru, z2, z3, z4, ?_⟩
          rw [drop_upd hb]
          exact ret _ H2 r2 _ S2 (e1.trans e2) rel2 (.str _) q
        · exact q2.elim
      | _ => exact (show False from q2).elim
    | _ => exact (show False from q1).elim
end
end L3

set_option Elab.async false
set_option linter.all false
set_option maxRecDepth 100000
set_option maxHeartbeats 40000000
namespace Mine
open PySem PySem.Spec PyProof.Rows L2 L3
def top (i : Nat) : Stmt := PySem.Challenge.pw_boxnarrow_k11_numbers_written.main.body.getD i (.Pass ⟨0, 0, 0, 0⟩)
abbrev s_is_whole : Stmt := top 11
theorem sc_is_whole : FnScope ["value"] ["value"] (defScope s_is_whole) := ⟨rfl, rfl, rfl, by decide +kernel, rfl, by decide +kernel, by decide +kernel⟩
abbrev s_greatest_divisor : Stmt := top 12
theorem sc_greatest_divisor : FnScope ["one", "other", "rest"] ["one", "other"] (defScope s_greatest_divisor) := ⟨rfl, rfl, rfl, by decide +kernel, rfl, by decide +kernel, by decide +kernel⟩
abbrev s_fraction : Stmt := top 13
theorem sc_fraction : FnScope ["top", "bottom", "divisor"] ["top", "bottom"] (defScope s_fraction) := ⟨rfl, rfl, rfl, by decide +kernel, rfl, by decide +kernel, by decide +kernel⟩
abbrev s_made_of : Stmt := top 17
theorem sc_made_of : FnScope ["word", "signs", "most"] ["word", "signs", "most"] (defScope s_made_of) := ⟨rfl, rfl, rfl, by decide +kernel, rfl, by decide +kernel, by decide +kernel⟩
abbrev s_figures_of : Stmt := top 18
theorem sc_figures_of : FnScope ["number", "piece", "texts"] ["number"] (defScope s_figures_of) := ⟨rfl, rfl, rfl, by decide +kernel, rfl, by decide +kernel, by decide +kernel⟩
abbrev s_written : Stmt := top 19
theorem sc_written : FnScope ["a", "text"] ["a"] (defScope s_written) := ⟨rfl, rfl, rfl, by decide +kernel, rfl, by decide +kernel, by decide +kernel⟩
abbrev s_number_of : Stmt := top 20
theorem sc_number_of : FnScope ["word", "parts", "top", "bottom", "figures", "number"] ["word"] (defScope s_number_of) := ⟨rfl, rfl, rfl, by decide +kernel, rfl, by decide +kernel, by decide +kernel⟩
abbrev s_law_cell_at : Stmt := top 22
theorem sc_law_cell_at : FnScope ["_law_script", "_law_k"] ["_law_script", "_law_k"] (defScope s_law_cell_at) := ⟨rfl, rfl, rfl, by decide +kernel, rfl, by decide +kernel, by decide +kernel⟩
abbrev s_law_whole : Stmt := top 23
theorem sc_law_whole : FnScope ["_law_found"] ["_law_found"] (defScope s_law_whole) := ⟨rfl, rfl, rfl, by decide +kernel, rfl, by decide +kernel, by decide +kernel⟩
abbrev s_law_divisor : Stmt := top 24
theorem sc_law_divisor : FnScope ["_law_a", "_law_b", "_law_rest"] ["_law_a", "_law_b"] (defScope s_law_divisor) := ⟨rfl, rfl, rfl, by decide +kernel, rfl, by decide +kernel, by decide +kernel⟩
abbrev s_law_text : Stmt := top 25
theorem sc_law_text : FnScope ["_law_top", "_law_bottom"] ["_law_top", "_law_bottom"] (defScope s_law_text) := ⟨rfl, rfl, rfl, by decide +kernel, rfl, by decide +kernel, by decide +kernel⟩
abbrev s_law_other : Stmt := top 26
theorem sc_law_other : FnScope ["_law_e"] ["_law_e"] (defScope s_law_other) := ⟨rfl, rfl, rfl, by decide +kernel, rfl, by decide +kernel, by decide +kernel⟩
abbrev s_law_refused : Stmt := top 27
theorem sc_law_refused : FnScope ["_law_word", "_law_heard", "_law_e"] ["_law_word"] (defScope s_law_refused) := ⟨rfl, rfl, rfl, by decide +kernel, rfl, by decide +kernel, by decide +kernel⟩
abbrev s_law_no_number : Stmt := top 28
theorem sc_law_no_number : FnScope ["_law_way", "_law_cell", "_law_text_here", "_law_top", "_law_bottom", "_law_small", "_law_odd", "_law_at"] ["_law_way", "_law_cell", "_law_text_here", "_law_top", "_law_bottom"] (defScope s_law_no_number) := ⟨rfl, rfl, rfl, by decide +kernel, rfl, by decide +kernel, by decide +kernel⟩
abbrev s_law : Stmt := top 29
theorem sc_law : FnScope ["_law_script", "_law_top", "_law_bottom", "_law_shared", "_law_text_here", "_law_found", "_law_far", "_law_great", "_law_heard"] ["_law_script"] (defScope s_law) := ⟨rfl, rfl, rfl, by decide +kernel, rfl, by decide +kernel, by decide +kernel⟩

theorem fld_at {C : Addr} {f : Str} {to : TDE} {dl : Ev} {S S1 : Sto} {Q : DK} {n : Nat} {fs : List (Str × D)} {v : D} (hto : ∀ K : DK, K (.ref n) S1 → to dl S K) (h : S1[n]? = some (.ins C fs)) (hf : fs.lookup f = some v) (hq : Q v S1) : dFld C f to dl S Q := by
  unfold dFld
  refine hto _ ?_
  simp only [insAt, h, if_pos, hf]
  exact hq
theorem setFld_at {C : Addr} {f : Str} {to te : TDE} {dl : Ev} {S S1 S2 : Sto} {E : EndsD} {n : Nat} {fs : List (Str × D)} {v : D} (hte : ∀ K : DK, K v S1 → te dl S K) (hto : ∀ K : DK, K (.ref n) S2 → to dl S1 K) (h : S2[n]? = some (.ins C fs)) (hl : fs.length < 1000) (hq : E.nx dl (S2.set n (.ins C (putD f v fs)))) : dSetFld C f to te E dl S := by
  unfold dSetFld
  refine hte _ (hto _ ?_)
  simp only [insAt, h, if_pos]
  exact ⟨hl, hq⟩
theorem meth_at {C : Addr} {m : Str} {ex : Ev → Addr → Sto → Prop} {sd : Sd} {to : TDE} {t : TDA} {dl : Ev} {S S1 : Sto} {Q : DK} {n : Nat} {fs : List (Str × D)} (hto : ∀ K : DK, K (.ref n) S1 → to dl S K) (h : S1[n]? = some (.ins C fs)) (hf : fs.lookup m = none) (hq : t dl S1 fun ds S2 => sd (.ref n :: ds) S2 Q (ex dl)) : dMeth C m ex sd to t dl S Q := by
  unfold dMeth
  refine hto _ ?_
  simp only [insAt, h, if_pos]
  exact ⟨hf, hq⟩
theorem instB_at {c : Addr} {y : Bool} {te : TDE} {dl : Ev} {S : Sto} {Q : DK} (ht : ∀ K : DK, K (.exc c) S → te dl S K) (hq : Q (.bl y) S) : dInstB (ansOf c y) te dl S Q := by
  unfold dInstB
  refine ht _ ?_
  simp only [ansOf, if_pos]
  exact hq
theorem instL_at {te : TDE} {dl : Ev} {S : Sto} {Q : DK} {n : Nat} {xs : List D} (ht : ∀ K : DK, K (.ref n) S → te dl S K) (h : S[n]? = some (.lst xs)) (hq : Q (.bl true) S) : dInstL "list" te dl S Q := by
  unfold dInstL
  refine ht _ ?_
  simp only [h]
  exact hq
theorem forZ_at {is : List Nat} {ta : TDA} {tb : TDS} {E : EndsD} {dl : Ev} {S : Sto} {n n' : Nat} {xs ys : List D} (W : Ev → Prop) (hta : ∀ K : List D → Sto → Prop, K [.ref n, .ref n'] S → ta dl S K) (h1 : S[n]? = some (.lst xs)) (h2 : S[n']? = some (.lst ys)) (h0 : W dl)
    (hb : ∀ (k : Nat) (x y : D) (dl' : Ev) (nx ct : Ev → Sto → Prop), xs[k]? = some x → ys[k]? = some y → W dl' → (∀ dl2, W dl2 → nx dl2 S) → tb { nx := nx, rt := E.rt, bk := E.nx, ct := ct } (setAll is [x, y] dl') S) (he : ∀ dl', W dl' → E.nx dl' S) : dForZ is ta tb E dl S := by
  unfold dForZ
  refine hta _ ⟨⟨by rw [lAt_of h1 rfl]; rfl, by rw [lAt_of h2 rfl]; rfl⟩, fun k m dl' S' => S' = S ∧ W dl' ∧ k + m = min xs.length ys.length, ⟨min xs.length ys.length, rfl, h0, by simp⟩, ?_⟩
  rintro k m dl' S' ⟨rfl, w, hk⟩
  simp only [lAt_of h1 rfl, lAt_of h2 rfl, itemsOf]
  split
  · rename_i x y e1 e2
    have l1 := (List.getElem?_eq_some_iff.mp e1).1
    have l2 := (List.getElem?_eq_some_iff.mp e2).1
    exact hb k x y dl' _ _ e1 e2 w (fun dl2 w2 => ⟨m - 1, by omega, rfl, w2, by omega⟩)
  · rename_i no
    refine ⟨?_, he _ w⟩
    by_cases l : k < min xs.length ys.length
    · exact absurd (List.getElem?_eq_getElem (l := ys) (i := k) (by omega)) (no _ _ (List.getElem?_eq_getElem (l := xs) (i := k) (by omega)))
    · omega
theorem forE_at {is : List Nat} {ta : TDA} {tb : TDS} {E : EndsD} {dl : Ev} {S : Sto} {n : Nat} {xs : List D} (W : Ev → Prop) (hta : ∀ K : List D → Sto → Prop, K [.ref n] S → ta dl S K) (h1 : S[n]? = some (.lst xs)) (h0 : W dl)
    (hb : ∀ (k : Nat) (x : D) (dl' : Ev) (nx ct : Ev → Sto → Prop), xs[k]? = some x → W dl' → (∀ dl2, W dl2 → nx dl2 S) → tb { nx := nx, rt := E.rt, bk := E.nx, ct := ct } (setAll is [.int (k : Int), x] dl') S) (he : ∀ dl', W dl' → E.nx dl' S) : dForE is ta tb E dl S := by
  unfold dForE
  refine hta _ ⟨by rw [lAt_of h1 rfl]; rfl, fun k m dl' S' => S' = S ∧ W dl' ∧ k + m = xs.length, ⟨xs.length, rfl, h0, by simp⟩, ?_⟩
  rintro k m dl' S' ⟨rfl, w, hk⟩
  simp only [lAt_of h1 rfl, itemsOf]
  split
  · rename_i x e1
    have l1 := (List.getElem?_eq_some_iff.mp e1).1
    exact hb k x dl' _ _ e1 w (fun dl2 w2 => ⟨m - 1, by omega, rfl, w2, by omega⟩)
  · rename_i e1
    have l1 := List.getElem?_eq_none_iff.mp e1
    exact ⟨by omega, he _ w⟩
theorem setIx_at {to ti te : TDE} {dl : Ev} {S : Sto} {E : EndsD} {n j : Nat} {k : Int} {xs : List D} {v : D} (hte : ∀ K : DK, K v S → te dl S K) (hto : ∀ K : DK, K (.ref n) S → to dl S K) (hti : ∀ K : DK, K (.int k) S → ti dl S K) (h : S[n]? = some (.lst xs)) (hj : ixN xs.length k = some j) (hq : E.nx dl (S.set n (.lst (xs.set j v)))) : dSetIx to ti te E dl S := by
  unfold dSetIx
  refine hte _ (hto _ (hti _ ?_))
  simp only [h, hj]
  exact hq
theorem len_lst {n : Nat} {S : Sto} {Q : DK} {xs : List D} (h : S[n]? = some (.lst xs)) (hq : Q (.int (xs.length : Nat)) S) : irr wLen [.ref n] S Q := by
  rw [irr_eq]
  unfold wLen
  simp only [lAt_of h rfl]
  exact hq
theorem at_ne {S : Sto} {n a : Nat} {o u : Ob} (h : S[n]? = some o) (hn : a ≠ n) : (S.set a u)[n]? = some o := by rw [List.getElem?_set_ne hn]; exact h
theorem set_app {S : Sto} {n : Nat} {o u : Ob} {T : Sto} (h : S[n]? = some o) : (S ++ T).set n u = S.set n u ++ T := by
  have hk := (List.getElem?_eq_some_iff.mp h).1
  exact List.set_append_left _ _ hk
theorem at_set {S : Sto} {n : Nat} {o u : Ob} (h : S[n]? = some o) : (S.set n u)[n]? = some u := by
  have hk := (List.getElem?_eq_some_iff.mp h).1
  simp [hk]
theorem at_app {S : Sto} {n : Nat} {o : Ob} {T : Sto} (h : S[n]? = some o) : (S ++ T)[n]? = some o := by
  have hk := (List.getElem?_eq_some_iff.mp h).1
  rw [List.getElem?_append_left hk]
  exact h
theorem mid_get (T R : Sto) (u : Ob) : (T ++ u :: R)[T.length]? = some u := by simp
theorem mid_set (T R : Sto) (u v : Ob) : (T ++ u :: R).set T.length v = T ++ v :: R := by simp
theorem lst_new {dl : Ev} {S : Sto} {Q : DK} {T : Sto} {m : Nat} (e : T = S ++ [.lst []]) (em : m = S.length) (h : Q (.ref m) T) : dLst dNil dl S Q := by
  subst e em
  exact h
def Keeps (S T : Sto) : Prop := ∀ (x : Nat) (o : Ob), S[x]? = some o → T[x]? = some o
theorem Keeps.app (S T : Sto) : Keeps S (S ++ T) := fun _ _ h => at_app h
theorem lt_of_at {S : Sto} {n : Nat} {o : Ob} (h : S[n]? = some o) : n < S.length := (List.getElem?_eq_some_iff.mp h).1
theorem eqS_at {n m : Nat} {S : Sto} {Q : DK} {xs ys : List D} {b : Bool} (h1 : S[n]? = some (.lst xs)) (h2 : S[m]? = some (.lst ys)) (e : eqL (eqN 1) xs ys = some b) (hq : Q (.bl b) S) : irr2 (wEqS 1) (.ref n) (.ref m) S Q := by
  rw [irr2_eq]
  unfold wEqS
  simp only [eqSt, lAt_of h1 rfl, lAt_of h2 rfl, itemsOf, e]
  exact hq
theorem cut_int {xs : List Int} {lo hi : Option Int} {k : Nat} {x : D} (h : (cutD (xs.map D.int) lo hi)[k]? = some x) : ∃ c : Int, x = .int c := by
  have m := List.mem_of_getElem? h
  unfold L3.cutD at m
  obtain ⟨c, _, rfl⟩ := List.mem_map.mp (List.mem_of_mem_drop (List.mem_of_mem_take m))
  exact ⟨c, rfl⟩
theorem set_set' {S : Sto} {n : Nat} {u v : Ob} : (S.set n u).set n v = S.set n v := by simp
/-- a loop over a list that stays while the store grows -/
theorem for_sto {i n : Nat} {tb : TDS} {E : EndsD} {dl : Ev} {S : Sto} {o : Ob} (W : Nat → Ev → Sto → Prop) (h0 : W 0 dl S) (hk : ∀ k dl' S', W k dl' S' → S'[n]? = some o)
    (ht : ∀ (k : Nat) (x : D) (dl' : Ev) (S' : Sto) (nx ct : Ev → Sto → Prop), (itemsOf o)[k]? = some x → W k dl' S' → (∀ dl2 S2, W (k + 1) dl2 S2 → nx dl2 S2) → tb { nx := nx, rt := E.rt, bk := E.nx, ct := ct } (dl'.set i (some x)) S') (he : ∀ dl' S', W (itemsOf o).length dl' S' → E.nx dl' S') (hL : keepL o = some o := by rfl) :
    (lAt S n).isSome = true ∧ ∃ W : Nat → Nat → Ev → Sto → Prop, (∃ m, W 0 m dl S) ∧ ∀ k m dl S, W k m dl S → match lAt S n with
    | some o => match (itemsOf o)[k]? with
      | some x => tb { nx := fun dl' S' => ∃ m', m' < m ∧ W (k + 1) m' dl' S', rt := E.rt, bk := E.nx, ct := fun dl' S' => ∃ m', m' < m ∧ W (k + 1) m' dl' S' } (dl.set i (some x)) S
      | none => E.nx dl S
    | none => False := by
  refine ⟨by rw [lAt_of (hk _ _ _ h0) hL]; rfl, fun k m dl' S' => m + k = (itemsOf o).length ∧ W k dl' S', ⟨(itemsOf o).length, by omega, h0⟩, ?_⟩
  rintro k m dl' S' ⟨hm, w⟩
  rw [lAt_of (hk _ _ _ w) hL]
  show (match (itemsOf o)[k]? with
      | some x => tb { nx := fun dl' S'' => ∃ m', m' < m ∧ (m' + (k + 1) = (itemsOf o).length ∧ W (k + 1) dl' S''), rt := E.rt, bk := E.nx, ct := fun dl' S'' => ∃ m', m' < m ∧ (m' + (k + 1) = (itemsOf o).length ∧ W (k + 1) dl' S'') } (dl'.set i (some x)) S'
      | none => E.nx dl' S')
  split
  · rename_i x hx
    have hk : k < (itemsOf o).length := (List.getElem?_eq_some_iff.mp hx).1
    exact ht k x dl' S' _ _ hx w fun dl2 S2 w2 => ⟨m - 1, by omega, by omega, w2⟩
  · rename_i hx
    have hk : k = (itemsOf o).length := by
      have := List.getElem?_eq_none_iff.mp hx
      omega
    exact he dl' S' (hk ▸ w)
open PySem.W.KIN PySem.NumText
abbrev cs (x : Str) : List Nat := x.cps.toList
theorem str_ext {x y : Str} (h : cs x = cs y) : x = y := by
  cases x; cases y
  simp only [Str.mk.injEq]
  exact Array.toList_inj.mp h
theorem len_list (w : Str) : w.length = (cs w).length := by simp [Str.length]
theorem app_list (a b : Str) : cs (a ++ b) = cs a ++ cs b := by show (a ++ b).cps.toList = _; rw [Str.cps_append]; simp
def dec (m : Nat) : List Nat := (Nat.toDigits 10 m).map Char.toNat
theorem dec_digits (m : Nat) : AllDigits (dec m) := fun c hc => by
  obtain ⟨x, hx, e⟩ := List.mem_map.mp hc
  have r := digit_range (Nat.isDigit_of_mem_toDigits (by decide) (by decide) hx)
  rw [← e]
  exact r
theorem dec_ne (m : Nat) : dec m ≠ [] := fun e => by
  have l1 := toDigits_len_ge 10 m
  rw [List.map_eq_nil_iff.mp e] at l1
  exact absurd l1 (by decide)
theorem dec_val (m : Nat) : digitsVal (dec m) = m := val_back m
theorem dec_inj {a b : Nat} (h : dec a = dec b) : a = b := by rw [← dec_val a, ← dec_val b, h]
theorem dec_step {m : Nat} (h : 10 ≤ m) : dec m = dec (m / 10) ++ [48 + m % 10] := by
  have hm : m % 10 < 10 := Nat.mod_lt m (by decide)
  have two : Nat.toDigits 10 (m / 10) ++ Nat.toDigits 10 (m % 10) = Nat.toDigits 10 (10 * (m / 10) + m % 10) := Nat.toDigits_append_toDigits (by decide) (by omega) hm
  rw [Nat.div_add_mod] at two
  unfold dec
  rw [← two, List.map_append, Nat.toDigits_of_lt_base hm]
  have e : ∀ d : Nat, d < 10 → (Nat.digitChar d).toNat = 48 + d := by decide
  show _ ++ [(Nat.digitChar (m % 10)).toNat] = _
  rw [e _ hm]
theorem dec_small {m : Nat} (h : m < 10) : dec m = [48 + m] := by
  unfold dec
  rw [Nat.toDigits_of_lt_base h]
  have e : ∀ d : Nat, d < 10 → (Nat.digitChar d).toNat = 48 + d := by decide
  show [(Nat.digitChar m).toNat] = _
  rw [e _ h]
/-- no nought ahead but in 0 itself -/
theorem dec_head (m : Nat) : ∀ r, dec m = 48 :: r → m = 0 ∧ r = [] := by
  refine Nat.strongRecOn m fun m ih => ?_
  · intro r e
    by_cases h : m < 10
    · rw [dec_small h] at e
      simp only [List.cons.injEq] at e
      exact ⟨by omega, e.2.symm⟩
    · rw [dec_step (by omega)] at e
      cases d : dec (m / 10) with
      | nil => exact absurd d (dec_ne _)
      | cons c t =>
        rw [d] at e
        simp only [List.cons_append, List.cons.injEq] at e
        have := ih (m / 10) (by omega) t (by rw [d, e.1])
        omega
theorem dec_len {m k : Nat} (hk : 1 ≤ k) (h : m < 10 ^ k) : (dec m).length ≤ k := by
  induction k generalizing m with
  | zero => omega
  | succ k ih =>
    by_cases hm : m < 10
    · rw [dec_small hm]; simp
    · rw [dec_step (by omega)]
      by_cases k0 : k = 0
      · subst k0
        simp at h
        omega
      · have := ih (m := m / 10) (by omega) (by rw [Nat.pow_succ] at h; omega)
        simp
        exact this
theorem val_lt (l : List Nat) : AllDigits l → digitsVal l < 10 ^ l.length := by
  induction l using PyProof.Rows.snocInd with
  | nil => intro _; decide
  | snoc l c ih =>
    intro h
    have h1 := ih (fun d hd => h d (List.mem_append_left _ hd))
    have h2 := h c (by simp)
    rw [digitsVal_snoc, List.length_append, List.length_singleton, Nat.pow_succ]
    omega
def num (i : Int) : List Nat := if i < 0 then 45 :: dec i.natAbs else dec i.natAbs
theorem cs_str (i : Int) : cs (Str.ofString (toString i)) = num i := by
  unfold num
  cases i with
  | ofNat m => exact signs_num m
  | negSucc k =>
    rw [if_pos (Int.negSucc_lt_zero k)]
    show (Str.ofString (toString (Int.negSucc k))).cps.toList = _
    rw [signs_ofString]
    show (("-" : String) ++ Nat.repr (k + 1)).toList.map Char.toNat = _
    rw [String.toList_append, List.map_append, Nat.toList_repr]
    rfl
theorem num_nn {i : Int} (h : 0 ≤ i) : num i = dec i.natAbs := if_neg (by omega)
theorem num_neg {i : Int} (h : i < 0) : num i = 45 :: dec i.natAbs := if_pos h
theorem num_ne (i : Int) : num i ≠ [] := by
  unfold num
  split
  · exact fun e => by cases e
  · exact dec_ne _
theorem num_mem {i : Int} {c : Nat} (h : c ∈ num i) : c = 45 ∨ 48 ≤ c ∧ c ≤ 57 := by
  unfold num at h
  split at h
  · rcases List.mem_cons.mp h with e | e
    · exact .inl e
    · exact .inr (dec_digits _ c e)
  · exact .inr (dec_digits _ c h)
theorem dec_cons {m : Nat} {c : Nat} {r : List Nat} (h : dec m = c :: r) : 48 ≤ c ∧ c ≤ 57 := dec_digits m c (by rw [h]; exact List.mem_cons_self ..)
theorem num_inj {a b : Int} (h : num a = num b) : a = b := by
  unfold num at h
  split at h <;> split at h
  · have := dec_inj (List.cons.inj h).2
    omega
  · have := dec_cons h.symm
    omega
  · have := dec_cons h
    omega
  · have := dec_inj h
    omega
def textOf (t b : Int) : List Nat := num t ++ (if b = 1 then [] else 47 :: num b)
structure IsNum (w : List Nat) (t b : Int) : Prop where
  pos : 1 ≤ b
  low : Int.gcd t b = 1
  top : t.natAbs < 10 ^ 9
  bot : b < 10 ^ 9
  eq : w = textOf t b
theorem no47 (i : Int) : 47 ∉ num i := fun h => by
  have := num_mem h
  omega
theorem split47 : ∀ {X A Y B : List Nat}, 47 ∉ X → 47 ∉ A → X ++ 47 :: Y = A ++ 47 :: B → X = A ∧ Y = B
  | [], [], Y, B, _, _, e => ⟨rfl, (List.cons.inj e).2⟩
  | [], a :: A, Y, B, _, h, e => absurd (show 47 ∈ a :: A by rw [show a = 47 from ((List.cons.inj e).1).symm]; exact List.mem_cons_self ..) h
  | x :: X, [], Y, B, h, _, e => absurd (show 47 ∈ x :: X by rw [show x = 47 from (List.cons.inj e).1]; exact List.mem_cons_self ..) h
  | x :: X, a :: A, Y, B, h1, h2, e => by
    obtain ⟨e1, e2⟩ := List.cons.inj e
    obtain ⟨r1, r2⟩ := split47 (fun m => h1 (List.mem_cons_of_mem _ m)) (fun m => h2 (List.mem_cons_of_mem _ m)) e2
    exact ⟨by rw [e1, r1], r2⟩
theorem IsNum.split {A B : List Nat} {t b : Int} (h : IsNum (A ++ 47 :: B) t b) (hA : 47 ∉ A) : num t = A ∧ num b = B ∧ b ≠ 1 := by
  have e := h.eq
  unfold textOf at e
  split at e
  · rw [List.append_nil] at e
    exact absurd (show 47 ∈ num t by rw [← e]; simp) (no47 t)
  · rename_i hb
    obtain ⟨r1, r2⟩ := split47 hA (no47 t) e
    exact ⟨r1.symm, r2.symm, hb⟩
theorem IsNum.plain {w : List Nat} {t b : Int} (h : IsNum w t b) (hw : 47 ∉ w) : num t = w ∧ b = 1 := by
  have e := h.eq
  unfold textOf at e
  split at e
  · rename_i hb
    rw [List.append_nil] at e
    exact ⟨e.symm, hb⟩
  · exact absurd (by rw [e]; simp) hw
theorem IsNum.mem {w : List Nat} {t b : Int} (h : IsNum w t b) {c : Nat} (hc : c ∈ w) : c = 45 ∨ c = 47 ∨ 48 ≤ c ∧ c ≤ 57 := by
  rw [h.eq] at hc
  unfold textOf at hc
  rcases List.mem_append.mp hc with e | e
  · rcases num_mem e with z | z
    · exact .inl z
    · exact .inr (.inr z)
  · split at e
    · cases e
    · rcases List.mem_cons.mp e with z | z
      · exact .inr (.inl z)
      · rcases num_mem z with z | z
        · exact .inl z
        · exact .inr (.inr z)
/-- words that are no numbers -/
def Bad (w : List Nat) : Prop := ∀ t b : Int, ¬ IsNum w t b
theorem bad_sign {w : List Nat} {c : Nat} (hc : c ∈ w) (h : c ≠ 45 ∧ c ≠ 47 ∧ ¬ (48 ≤ c ∧ c ≤ 57)) : Bad w := fun t b n => by
  have := n.mem hc
  omega
theorem bad_top {A B : List Nat} (hA : 47 ∉ A) (h : ∀ t : Int, num t ≠ A) : Bad (A ++ 47 :: B) := fun t _ n => h t (n.split hA).1
theorem bad_bot {A B : List Nat} (hA : 47 ∉ A) (h : ∀ b : Int, 1 < b → num b ≠ B) : Bad (A ++ 47 :: B) := fun _ b n => by
  obtain ⟨_, e, hb⟩ := n.split hA
  have := n.pos
  exact h b (by omega) e
theorem bad_plain {w : List Nat} (hw : 47 ∉ w) (h : ∀ t : Int, t.natAbs < 10 ^ 9 → num t ≠ w) : Bad w := fun t _ n => h t n.top (n.plain hw).1
theorem not_num_nil (t : Int) : num t ≠ [] := num_ne t
theorem not_num_minus (t : Int) : num t ≠ [45] := fun e => by
  unfold num at e
  split at e
  · exact dec_ne _ (List.cons.inj e).2
  · have := dec_cons e
    omega
/-- a nought ahead -/
theorem not_num_nought {r : List Nat} (hr : r ≠ []) (t : Int) : num t ≠ 48 :: r := fun e => by
  unfold num at e
  split at e
  · have := (List.cons.inj e).1
    omega
  · exact hr (dec_head _ _ e).2
theorem not_num_mnought (r : List Nat) (t : Int) : num t ≠ 45 :: 48 :: r := fun e => by
  unfold num at e
  split at e
  · rename_i h
    have := (dec_head _ _ (List.cons.inj e).2).1
    omega
  · have := dec_cons e
    omega
theorem not_num_mm (r : List Nat) (t : Int) : num t ≠ 45 :: 45 :: r := fun e => by
  unfold num at e
  split at e
  · have := dec_cons (List.cons.inj e).2
    omega
  · have := dec_cons e
    omega
theorem dec_no {m c : Nat} (h : c < 48 ∨ 57 < c) : c ∉ dec m := fun z => by
  have := dec_digits m c z
  omega
theorem pos_no45 {b : Int} (hb : 1 < b) (r : List Nat) : num b ≠ 45 :: r := fun e => by
  rw [num_nn (by omega)] at e
  have := dec_cons e
  omega
theorem bad_multiple {t0 b0 m : Int} (hm : 2 ≤ m) (hb : 1 ≤ b0) : Bad (num (t0 * m) ++ 47 :: num (b0 * m)) := fun t b n => by
  obtain ⟨e1, e2, _⟩ := n.split (no47 _)
  have e1 := num_inj e1
  have e2 := num_inj e2
  subst e1 e2
  have d1 : (m.natAbs : Int) ∣ t0 * m := Int.natAbs_dvd.mpr (Int.dvd_mul_left _ _)
  have d2 : (m.natAbs : Int) ∣ b0 * m := Int.natAbs_dvd.mpr (Int.dvd_mul_left _ _)
  have g := Int.dvd_gcd d1 d2
  rw [n.low] at g
  have := Nat.le_of_dvd (by decide) g
  omega
theorem bad_long {n : Int} (h : 10 ^ 9 ≤ n) : Bad (num n) ∧ Bad (45 :: num n) ∧ Bad (49 :: 47 :: num n) := by
  refine ⟨bad_plain (no47 _) fun t ht e => ?_, bad_plain (fun z => ?_) fun t ht e => ?_, fun t b q => ?_⟩
  · have := num_inj e
    omega
  · rcases List.mem_cons.mp z with z | z
    · omega
    · exact no47 _ z
  · rw [num_nn (show 0 ≤ n by omega)] at e
    unfold num at e
    split at e
    · have := dec_inj (List.cons.inj e).2
      omega
    · have := dec_cons e
      omega
  · obtain ⟨_, e, _⟩ := q.split (A := [49]) (by decide)
    have := num_inj e
    have := q.bot
    omega
/-- the figures by pieces -/
def pad (k r : Nat) : List Nat := List.replicate (k - (dec r).length) 48 ++ dec r
theorem dec_pad {q : Nat} (hq : 0 < q) : ∀ (k r : Nat), 1 ≤ k → r < 10 ^ k → dec (q * 10 ^ k + r) = dec q ++ pad k r
  | 0, _, h, _ => absurd h (by decide)
  | 1, r, _, hr => by
    have hr' : r < 10 := by simpa using hr
    rw [dec_step (by omega), show (q * 10 ^ 1 + r) / 10 = q by omega, show (q * 10 ^ 1 + r) % 10 = r by omega]
    unfold pad
    rw [dec_small hr']
    rfl
  | k + 2, r, _, hr => by
    have ih := dec_pad hq (k + 1) (r / 10) (by omega) (by rw [Nat.pow_succ] at hr; omega)
    have e1 : (q * 10 ^ (k + 2) + r) / 10 = q * 10 ^ (k + 1) + r / 10 := by rw [Nat.pow_succ, ← Nat.mul_assoc]; omega
    have e2 : (q * 10 ^ (k + 2) + r) % 10 = r % 10 := by rw [Nat.pow_succ, ← Nat.mul_assoc]; omega
    have big : 10 ≤ q * 10 ^ (k + 2) + r := by
      have : 1 ≤ q * 10 ^ (k + 1) := Nat.mul_pos hq (Nat.pow_pos (by decide))
      rw [Nat.pow_succ, ← Nat.mul_assoc]
      omega
    rw [dec_step big, e1, e2, ih, List.append_assoc]
    congr 1
    unfold pad
    by_cases h : r < 10
    · rw [dec_small h, show r / 10 = 0 by omega, show r % 10 = r by omega, dec_small (by decide)]
      show List.replicate (k + 1 - 1) 48 ++ [48 + 0] ++ [48 + r] = List.replicate (k + 2 - 1) 48 ++ [48 + r]
      congr 1
      rw [show k + 2 - 1 = (k + 1 - 1) + 1 by omega, List.replicate_succ']
    · rw [dec_step (show 10 ≤ r by omega), List.append_assoc, List.length_append, List.length_singleton]
      rw [show k + 1 + 1 - ((dec (r / 10)).length + 1) = k + 1 - (dec (r / 10)).length by omega]
/-- partition at a stroke -/
theorem stroke : ("/" : Str) = ⟨#[47]⟩ := by decide
theorem minus1 : ("-" : Str) = ⟨#[45]⟩ := by decide
theorem part_none {x : Str} (h : 47 ∉ cs x) : Txt.partition x "/" = (x, Str.empty, Str.empty) := by
  rw [stroke]
  unfold Txt.partition
  rcases StrLaws.occ_head x ⟨#[47]⟩ 1 (Nat.le_refl 1) with ⟨h0, _⟩ | ⟨i, r, h0, hi, hn⟩
  · rw [h0]
  · exact absurd (List.mem_of_getElem? ((StrLaws.subAt_one x 47 i).mp hi)) h
theorem part_some {x : Str} {A B : List Nat} (e : cs x = A ++ 47 :: B) (hA : 47 ∉ A) : Txt.partition x "/" = ((⟨A.toArray⟩ : Str), ("/" : Str), (⟨B.toArray⟩ : Str)) := by
  rw [stroke]
  unfold Txt.partition
  have at47 : (cs x)[A.length]? = some 47 := by rw [e]; simp
  rcases StrLaws.occ_head x ⟨#[47]⟩ 1 (Nat.le_refl 1) with ⟨_, hn⟩ | ⟨i, r, h0, hi, hn⟩
  · exact absurd ((StrLaws.subAt_one x 47 A.length).mpr at47) (hn _)
  · rw [h0]
    have hi' := (StrLaws.subAt_one x 47 i).mp hi
    have ei : i = A.length := by
      rcases Nat.lt_trichotomy i A.length with l | l | l
      · have z : (cs x)[i]? = A[i]? := by rw [e, List.getElem?_append_left l]
        rw [z] at hi'
        exact absurd (List.mem_of_getElem? hi') hA
      · exact l
      · exact absurd ((StrLaws.subAt_one x 47 A.length).mpr at47) (hn _ l)
    subst ei
    have lx : x.length = A.length + 1 + B.length := by rw [len_list, e]; simp; omega
    have p1 : Builtin.Str.strSub x 0 A.length = ⟨A.toArray⟩ := str_ext (by
      show (Builtin.Str.strSub x 0 A.length).cps.toList = A
      rw [StrLaws.strSub_toList, show x.cps.toList = A ++ 47 :: B from e]
      simp)
    have p2 : Builtin.Str.strSub x (A.length + (⟨#[47]⟩ : Str).length) x.length = ⟨B.toArray⟩ := str_ext (by
      show (Builtin.Str.strSub x (A.length + 1) x.length).cps.toList = B
      rw [StrLaws.strSub_toList, show x.cps.toList = A ++ 47 :: B from e, lx]
      simp)
    show (Builtin.Str.strSub x 0 A.length, (⟨#[47]⟩ : Str), Builtin.Str.strSub x (A.length + (⟨#[47]⟩ : Str).length) x.length) = _
    rw [p1, p2]
theorem starts_minus (x : Str) : Txt.startswith x "-" = decide ((cs x)[0]? = some 45) := by
  rw [minus1]
  unfold Txt.startswith
  have z := StrLaws.subAt_one x 45 0
  rw [Bool.eq_iff_iff, Bool.and_eq_true, decide_eq_true_eq, decide_eq_true_eq]
  exact z
abbrev mk (l : List Nat) : Str := ⟨l.toArray⟩
theorem cs_mk (l : List Nat) : cs (mk l) = l := by simp
theorem mk_cs (x : Str) : mk (cs x) = x := str_ext (by simp)
theorem mk_len (l : List Nat) : (mk l).length = l.length := by rw [len_list, cs_mk]
theorem mk_app (a b : List Nat) : mk a ++ mk b = mk (a ++ b) := str_ext (by rw [app_list, cs_mk, cs_mk, cs_mk])
theorem str_num (i : Int) : Str.ofString (toString i) = mk (num i) := str_ext (by rw [cs_str, cs_mk])
theorem tail_text {x : Str} {r : List Nat} (h : cs x = 45 :: r) : StrLaws.sliceText x (some 1) none = mk r := by
  have l : x.cps.toList.length = r.length + 1 := by rw [show x.cps.toList = 45 :: r from h]; simp
  rw [StrLaws.sliceText_from (x := x) (i := 1) ⟨by decide, by omega⟩]
  refine str_ext ?_
  rw [cs_mk]
  show (⟨_⟩ : Str).cps.toList = r
  rw [show x.cps.toList = 45 :: r from h]
  simp
theorem num_len {i : Int} {k : Nat} (hk : 1 ≤ k) (h : i.natAbs < 10 ^ k) : (num i).length ≤ k + 1 := by
  have := dec_len hk h
  unfold num
  split
  · simp; omega
  · omega
theorem textOf_len {t b : Int} {k : Nat} (hk : 1 ≤ k) (ht : t.natAbs < 10 ^ k) (hb : b.natAbs < 10 ^ k) : (textOf t b).length ≤ 2 * k + 3 := by
  have h1 := num_len hk ht
  have h2 := num_len hk hb
  unfold textOf
  rw [List.length_append]
  split
  · simp; omega
  · simp; omega
/-- what zfill makes of figures -/
theorem zfill_dec {r : Nat} (h : (dec r).length ≤ 64) : Txt.zfill (mk (dec r)) 64 = mk (pad 64 r) := by
  unfold Txt.zfill
  rw [mk_len]
  split
  · rename_i c
    have e : (dec r).length = 64 := by omega
    unfold pad
    rw [e]
    rfl
  · unfold zfilled
    cases d : dec r with
    | nil => exact absurd d (dec_ne r)
    | cons c t =>
      have hc := dec_cons d
      rw [show (mk (c :: t)).cps[0]? = some c by simp]
      split
      · rename_i z
        cases z
        omega
      · rename_i z
        cases z
        omega
      · refine str_ext ?_
        unfold pad Builtin.Str.padded
        rw [d]
        simp
/-- what the pieces make, read backward -/
theorem flat_cs (zs : List Str) : cs (flat zs) = zs.flatMap cs := by simp [flat]
theorem strs_mk : ∀ ls : List (List Nat), strsOf (ls.map fun l => D.str (mk l)) = some (ls.map mk)
  | [] => rfl
  | l :: ls => by
    show (strsOf (ls.map fun l => D.str (mk l))).map (mk l :: ·) = _
    rw [strs_mk ls]
    rfl
theorem flat_mk (ls : List (List Nat)) : flat (ls.map mk) = mk ls.flatten := str_ext (by
  rw [flat_cs, cs_mk, List.flatMap_map]
  have e : ∀ ks : List (List Nat), (ks.flatMap fun a => cs (mk a)) = ks.flatten := fun ks => by
    induction ks with
    | nil => rfl
    | cons k ks ih => rw [List.flatMap_cons, List.flatten_cons, ih, cs_mk]
  exact e ls)
theorem log2_of {i : Int} {k : Nat} (h : i.natAbs < 10 ^ k) (hk : k ≤ 400) : i.natAbs.log2 < 1920 := by
  by_cases z : i.natAbs = 0
  · rw [z]; decide
  · rw [Nat.log2_lt z]
    refine Nat.lt_of_lt_of_le h ?_
    have h1 : (10 : Nat) ^ k ≤ 16 ^ k := Nat.pow_le_pow_left (by decide) k
    have h2 : (16 : Nat) ^ k = 2 ^ (4 * k) := by rw [Nat.pow_mul]
    rw [h2] at h1
    exact Nat.le_trans h1 (Nat.pow_le_pow_right (by decide) (by omega))
/-- int(..) of figures, with and without a - ahead -/
theorem read_figures {F : List Nat} (h : AllDigits F) (h1 : F ≠ []) (h2 : F.length ≤ 600) : PySem.intText? (mk F) = some ((digitsVal F : Nat) : Int) ∧ PySem.intText? (mk (45 :: F)) = some (-((digitsVal F : Nat) : Int)) := by
  refine ⟨?_, ?_⟩
  · have z := intText_digits (x := mk F) (by rw [show (mk F).cps.toList = F from cs_mk F]; exact h) (by rw [show (mk F).cps.toList = F from cs_mk F]; exact h1) (by rw [mk_len]; omega)
    rw [show (mk F).cps.toList = F from cs_mk F] at z
    exact z
  · exact intText_neg (x := mk (45 :: F)) (cs := F) (cs_mk _) h h1 (by rw [mk_len]; simp; omega)
theorem first_stroke : ∀ w : List Nat, 47 ∈ w → ∃ A B, w = A ++ 47 :: B ∧ 47 ∉ A
  | [], h => by cases h
  | c :: w, h => by
    by_cases e : c = 47
    · subst e
      exact ⟨[], w, rfl, by simp⟩
    · have h' : 47 ∈ w := by
        rcases List.mem_cons.mp h with z | z
        · exact absurd z.symm e
        · exact z
      obtain ⟨A, B, e1, e2⟩ := first_stroke w h'
      exact ⟨c :: A, B, by rw [e1]; rfl, by simp; exact ⟨fun z => e z.symm, e2⟩⟩

/-- a class that is only asked about -/
structure Eb (K : PySem.W.Frag) (mg : Str → Option Value) (x : Str) where
  c : Addr
  bound : mg x = some (.ref c)
theorem all_map (f : Nat → Bool) (l : List Nat) : (l.map f).all id = l.all f := by rw [List.all_map]; rfl
theorem step_bound {a P B j : Nat} (h : a * P ^ j < B) : a / P * P ^ (j + 1) < B := by
  rw [Nat.pow_succ, Nat.mul_comm (P ^ j), ← Nat.mul_assoc]
  exact Nat.lt_of_le_of_lt (Nat.mul_le_mul_right _ (Nat.div_mul_le_self _ _)) h
theorem cut4 {s1 s2 s3 s4 t2 : TDS} {E : EndsD} {dl : Ev} {S : Sto} {α : Type} (G : α → Ev) (P : α → Prop) (h : (∀ a, P a → t2 E (G a) S) → dSeq s1 (dSeq s2 (dSeq s3 (dSeq s4 t2))) E dl S) (main : ∀ a, P a → t2 E (G a) S) : dSeq s1 (dSeq s2 (dSeq s3 (dSeq s4 t2))) E dl S := h main
abbrev FIG : Str := "0123456789"
theorem fig_mem (c : Nat) : c ∈ cs FIG ↔ 48 ≤ c ∧ c ≤ 57 := by
  have e : cs FIG = [48, 49, 50, 51, 52, 53, 54, 55, 56, 57] := by decide
  rw [e]
  simp
  omega
def figs (w : Str) : Bool := (decide (1 ≤ (w.length : Int)) && decide ((w.length : Int) ≤ 9)) && w.cps.toList.all (fun c => decide (c ∈ FIG.cps.toList))
theorem figs_iff (w : Str) : figs w = true ↔ (cs w ≠ [] ∧ (cs w).length ≤ 9 ∧ PySem.NumText.AllDigits (cs w)) := by
  unfold figs
  rw [Bool.and_eq_true, Bool.and_eq_true, decide_eq_true_eq, decide_eq_true_eq, List.all_eq_true]
  rw [len_list]
  constructor
  · rintro ⟨⟨h1, h2⟩, h3⟩
    refine ⟨fun z => ?_, by omega, fun c hc => (fig_mem c).mp (of_decide_eq_true (h3 c hc))⟩
    rw [z] at h1
    simp at h1
  · rintro ⟨h1, h2, h3⟩
    have : 0 < (cs w).length := List.length_pos_iff.mpr h1
    exact ⟨⟨by omega, by omega⟩, fun c hc => decide_eq_true ((fig_mem c).mpr (h3 c hc))⟩
def Shape (w T B : List Nat) : Prop := (w = T ∧ B = [49] ∨ w = T ++ 47 :: B) ∧ 47 ∉ T
def Sig (T F : List Nat) : Prop := T = 45 :: F ∨ T = F ∧ T[0]? ≠ some 45
theorem parts_of {w T B F : List Nat} {t b : Int} (n : IsNum w t b) (sh : Shape w T B) (sg : Sig T F) : T = num t ∧ F = dec t.natAbs ∧ B = dec b.natAbs := by
  obtain ⟨sh, nT⟩ := sh
  have e : T = num t ∧ B = dec b.natAbs := by
    rcases sh with ⟨rfl, rfl⟩ | rfl
    · obtain ⟨e1, rfl⟩ := n.plain nT
      exact ⟨e1.symm, by decide⟩
    · obtain ⟨e1, e2, _⟩ := n.split nT
      rw [num_nn (by have := n.pos; omega)] at e2
      exact ⟨e1.symm, e2.symm⟩
  refine ⟨e.1, ?_, e.2⟩
  have e1 := e.1
  by_cases ht : t < 0
  · rw [num_neg ht] at e1
    rcases sg with rfl | ⟨rfl, z⟩
    · exact (List.cons.inj e1).2
    · rw [e1] at z
      exact absurd rfl z
  · rw [num_nn (by omega)] at e1
    rcases sg with rfl | ⟨rfl, _⟩
    · have := dec_cons e1.symm
      omega
    · exact e1
theorem figs_dec {m : Nat} (h : m < 10 ^ 9) : figs (mk (dec m)) = true := by
  rw [figs_iff, cs_mk]
  exact ⟨dec_ne m, dec_len (by decide) h, dec_digits m⟩
theorem lowest_one {t b t' b' : Int} (hb : 1 ≤ b) (hb' : 1 ≤ b') (g : Int.gcd t b = 1) (g' : Int.gcd t' b' = 1) (e : t * b' = t' * b) : t = t' ∧ b = b' := by
  have d1 : b ∣ b' := by
    have z : b ∣ t * b' := ⟨t', by rw [e, Int.mul_comm]⟩
    have z' := Int.natAbs_dvd_natAbs.mpr z
    rw [Int.natAbs_mul] at z'
    exact Int.natAbs_dvd_natAbs.mp (Nat.Coprime.dvd_of_dvd_mul_left (show Nat.gcd b.natAbs t.natAbs = 1 by rw [Nat.gcd_comm]; exact g) z')
  have d2 : b' ∣ b := by
    have z : b' ∣ t' * b := ⟨t, by rw [← e, Int.mul_comm]⟩
    have z' := Int.natAbs_dvd_natAbs.mpr z
    rw [Int.natAbs_mul] at z'
    exact Int.natAbs_dvd_natAbs.mp (Nat.Coprime.dvd_of_dvd_mul_left (show Nat.gcd b'.natAbs t'.natAbs = 1 by rw [Nat.gcd_comm]; exact g') z')
  have eb : b = b' := Int.le_antisymm (Int.le_of_dvd (by omega) d1) (Int.le_of_dvd (by omega) d2)
  subst eb
  exact ⟨Int.eq_of_mul_eq_mul_right (by omega) e, rfl⟩
abbrev OFF1 : Str := " +.a^xE_,=\\'\"~!("
def off1 (c : Int) : Nat := OFF1.cps.toList.getD (c % 16).toNat 0
theorem off1_get (c : Int) : OFF1.cps[(c % 16).toNat]? = some (off1 c) := by
  have e : OFF1.cps.toList.length = 16 := by decide
  have h : (c % 16).toNat < OFF1.cps.toList.length := by omega
  rw [← Array.getElem?_toList]
  unfold off1
  rw [List.getD_eq_getElem?_getD, List.getElem?_eq_getElem h]
  rfl
theorem off1_off (c : Int) : off1 c ≠ 45 ∧ off1 c ≠ 47 ∧ ¬ (48 ≤ off1 c ∧ off1 c ≤ 57) := by
  have m : off1 c ∈ OFF1.cps.toList := List.mem_of_getElem? (i := (c % 16).toNat) (by rw [Array.getElem?_toList]; exact off1_get c)
  have all : ∀ x ∈ OFF1.cps.toList, x ≠ 45 ∧ x ≠ 47 ∧ ¬ (48 ≤ x ∧ x ≤ 57) := by decide
  exact all _ m
theorem pick (ws : List (List Nat)) (n : Int) (hn : (ws.length : Int) = n) (h0 : 0 < n) (c : Int) : ∃ l ∈ ws, atI (ws.map fun l => D.str (mk l)) (c % n) = some (.str (mk l)) := by
  have rr := mod_range (a := c) h0
  have hk : (c % n).toNat < ws.length := by omega
  refine ⟨ws[(c % n).toNat], List.getElem_mem hk, ?_⟩
  have z := atI_nat (xs := ws.map fun l => D.str (mk l)) (j := (c % n).toNat) (v := .str (mk ws[(c % n).toNat])) (by rw [List.getElem?_map, List.getElem?_eq_getElem hk]; rfl)
  rw [show (((c % n).toNat : Nat) : Int) = c % n by omega] at z
  exact z
theorem len_app (a b : Str) : (a ++ b).length = a.length + b.length := Str.length_append a b
theorem one_len (c : Nat) : (⟨#[c]⟩ : Str).length = 1 := rfl
theorem lit0 : ("0" : Str) = mk [48] := by decide
theorem litm0 : ("-0" : Str) = mk [45, 48] := by decide
theorem lit1 : ("1" : Str) = mk [49] := by decide
theorem lit1s : ("1/" : Str) = mk [49, 47] := by decide
theorem litn : ("" : Str) = mk [] := by decide
theorem litm : ("-" : Str) = mk [45] := by decide
theorem lits : ("/" : Str) = mk [47] := by decide
theorem litmm : ("--1" : Str) = mk [45, 45, 49] := by decide
theorem lit00 : ("00" : Str) = mk [48, 48] := by decide
theorem litms2 : ("-/2" : Str) = mk [45, 47, 50] := by decide
theorem lit1ss2 : ("1//2" : Str) = mk [49, 47, 47, 50] := by decide
def odds (m : List Nat) : List (List Nat) := [[], [45], [45, 48], [47], [45, 45, 49], [48, 48], [45, 47, 50], [49, 47, 47, 50], 47 :: m, m ++ [47]]
theorem odds_eq (m : List Nat) : [D.str "", D.str "-", D.str "-0", D.str "/", D.str "--1", D.str "00", D.str "-/2", D.str "1//2", D.str ("/" ++ mk m), D.str (mk m ++ "/")] = (odds m).map fun l => D.str (mk l) := by
  rw [litn, litm, litm0, litmm, lit00, litms2, lit1ss2, lits, mk_app, mk_app]
  rfl
theorem odds_bad {l : List Nat} {i : Int} (h : l ∈ odds (num i)) : Bad l ∧ l.length ≤ (num i).length + 4 := by
  unfold odds at h
  simp only [List.mem_cons, List.not_mem_nil, or_false] at h
  rcases h with rfl | rfl | rfl | rfl | rfl | rfl | rfl | rfl | rfl | rfl
  · exact ⟨bad_plain (by decide) fun t _ => not_num_nil t, by simp⟩
  · exact ⟨bad_plain (by decide) fun t _ => not_num_minus t, by simp⟩
  · exact ⟨bad_plain (by decide) fun t _ => not_num_mnought _ t, by simp⟩
  · exact ⟨bad_top (A := []) (B := []) (by decide) not_num_nil, by simp⟩
  · exact ⟨bad_plain (by decide) fun t _ => not_num_mm _ t, by simp⟩
  · exact ⟨bad_plain (by decide) fun t _ => not_num_nought (by decide) t, by simp⟩
  · exact ⟨bad_top (A := [45]) (B := [50]) (by decide) not_num_minus, by simp⟩
  · exact ⟨bad_bot (A := [49]) (B := [47, 50]) (by decide) fun b _ e => no47 b (by rw [e]; simp), by simp⟩
  · exact ⟨bad_top (A := []) (by decide) not_num_nil, by simp⟩
  · exact ⟨bad_bot (no47 i) fun b _ => num_ne b, by simp⟩
theorem IsNum.one {w : List Nat} {t b t' b' : Int} (h : IsNum w t b) (h' : IsNum w t' b') : t = t' ∧ b = b' := by
  have e' := h'.eq
  unfold textOf at e'
  split at e'
  · rename_i z
    rw [List.append_nil] at e'
    have w47 : 47 ∉ w := by rw [e']; exact no47 _
    obtain ⟨e1, e2⟩ := h.plain w47
    exact ⟨num_inj (e1.trans e'), by rw [e2, z]⟩
  · rw [e'] at h
    obtain ⟨e1, e2, _⟩ := h.split (no47 _)
    exact ⟨num_inj e1, num_inj e2⟩
theorem low_div (t0 : Int) {b0 : Int} (hb : 1 ≤ b0) (ht : t0.natAbs < 10 ^ 9) (hb9 : b0 < 10 ^ 9) : ∃ g : Int, ((Int.gcd (if t0 < 0 then -t0 else t0) b0 : Nat) : Int) = g ∧ 1 ≤ g ∧ Sz 40 g ∧ (t0 / g).natAbs < 10 ^ 9 ∧ 1 ≤ b0 / g ∧ b0 / g < 10 ^ 9 ∧ Int.gcd (t0 / g) (b0 / g) = 1 := by
  have eg : Int.gcd (if t0 < 0 then -t0 else t0) b0 = Int.gcd t0 b0 := by
    split
    · exact Int.neg_gcd
    · rfl
  have gp : 0 < Int.gcd t0 b0 := Int.gcd_pos_of_ne_zero_right _ (by omega)
  have d1 : ((Int.gcd t0 b0 : Nat) : Int) ∣ t0 := Int.gcd_dvd_left ..
  have d2 : ((Int.gcd t0 b0 : Nat) : Int) ∣ b0 := Int.gcd_dvd_right ..
  have gl := Int.le_of_dvd (by omega) d2
  refine ⟨((Int.gcd t0 b0 : Nat) : Int), by rw [eg], by omega, Sz.of (10 ^ 9) (by omega), ?_, ?_, ?_, ?_⟩
  · generalize Int.gcd t0 b0 = G at d1 gp
    obtain ⟨q, rfl⟩ := d1
    rw [Int.mul_ediv_cancel_left _ (by omega)]
    rw [Int.natAbs_mul, Int.natAbs_natCast] at ht
    exact Nat.lt_of_le_of_lt (Nat.le_mul_of_pos_left _ gp) ht
  · exact Int.le_ediv_of_mul_le (by omega) (by omega)
  · exact Int.lt_of_le_of_lt (Int.ediv_le_self _ (by omega)) hb9
  · have z := Int.gcd_ediv_gcd_ediv_gcd (i := t0) (j := b0) gp
    exact z
theorem seq_set2 {i j : Nat} {e1 e2 : TDE} {E : EndsD} {dl : Ev} {S : Sto} {v1 v2 : D} (h1 : ∀ K : DK, K v1 S → e1 dl S K) (h2 : ∀ K : DK, K v2 S → e2 (dl.set i (some v1)) S K) (h : E.nx ((dl.set i (some v1)).set j (some v2)) S) : dSeq (dSet i e1) (dSet j e2) E dl S := h1 _ (h2 _ h)
theorem top_ok {N A : Int} (e : N = 10 ^ 9) (h : 0 ≤ A ∧ A < 2 * N - 1) : (A - (N - 1)).natAbs < 10 ^ 9 := by omega
theorem bot_ok {N B : Int} (e : N = 10 ^ 9) (h : 0 ≤ B ∧ B < N - 1) : 1 ≤ 1 + B ∧ 1 + B < 10 ^ 9 := by omega
theorem top_ok2 (A : Int) : (A % 401 - 200).natAbs < 10 ^ 9 := by omega
theorem bot_ok2 (B : Int) : 1 ≤ 1 + B % 60 ∧ 1 + B % 60 < 10 ^ 9 := by omega
theorem far_ok {A : Int} (h : 0 ≤ A ∧ A < 10 ^ 60) : Sz 210 (1 + A) ∧ 1 ≤ 1 + A ∧ (1 + A).natAbs < 10 ^ 61 := ⟨Sz.of (10 ^ 60) (by omega), by omega, by omega⟩
theorem gre_ok {A : Int} (h : 0 ≤ A ∧ A < 2 * 10 ^ 60 * 10 ^ 60) : Sz 410 (A - 10 ^ 60 * 10 ^ 60) ∧ (A - 10 ^ 60 * 10 ^ 60).natAbs ≤ 10 ^ 120 := ⟨Sz.of (10 ^ 120) (by omega), by omega⟩
theorem great_ok {A B : Int} (ha : A.natAbs ≤ 10 ^ 120) (hb : B.natAbs < 10 ^ 61) : (A * B + 1).natAbs < 10 ^ 200 := by
  have z : (A * B).natAbs ≤ 10 ^ 181 := by
    rw [Int.natAbs_mul]
    have := Nat.mul_le_mul ha (Nat.le_of_lt hb)
    rw [← Nat.pow_add] at this
    exact this
  have e : (10 : Nat) ^ 181 + 1 < 10 ^ 200 := by decide
  omega

def sp_is_whole : Sd := fun ds S Q ex => match ds with
  | [.int _] => Q (.bl true) S
  | _ => False
theorem len_is_whole : ∀ ds S Q ex, sp_is_whole ds S Q ex → ds.length = 1 := fun ds S Q ex h => by
  unfold sp_is_whole at h
  split at h
  all_goals first | rfl | exact h.elim
def sp_greatest_divisor : Sd := fun ds S Q ex => match ds with
  | [.int a, .int b] => (0 ≤ a ∧ 0 ≤ b) ∧ Q (.int ((Int.gcd a b : Nat) : Int)) S
  | _ => False
theorem len_greatest_divisor : ∀ ds S Q ex, sp_greatest_divisor ds S Q ex → ds.length = 2 := fun ds S Q ex h => by
  unfold sp_greatest_divisor at h
  split at h
  all_goals first | rfl | exact h.elim
def sp_fraction (cNoNumber : Addr) : Sd := fun ds S Q ex => match ds with
  | [.int T, .int B] => (B = 0 ∧ ex cNoNumber S) ∨ ((B ≠ 0 ∧ Sz 4000 B) ∧ ∀ t b : Int, 1 ≤ b → t * B = T * b → Int.gcd t b = 1 → t.natAbs ≤ T.natAbs → b.natAbs ≤ B.natAbs → Q (.tup [.int t, .int b]) S)
  | _ => False
theorem len_fraction (cNoNumber : Addr) : ∀ ds S Q ex, sp_fraction cNoNumber ds S Q ex → ds.length = 2 := fun ds S Q ex h => by
  unfold sp_fraction at h
  split at h
  all_goals first | rfl | exact h.elim
def sp_made_of : Sd := fun ds S Q ex => match ds with
  | [.str w, .str sg, .int m] => w.length ≤ 1000 ∧ Q (.bl ((decide (1 ≤ (w.length : Int)) && decide ((w.length : Int) ≤ m)) && w.cps.toList.all (fun c => decide (c ∈ sg.cps.toList)))) S
  | _ => False
theorem len_made_of : ∀ ds S Q ex, sp_made_of ds S Q ex → ds.length = 3 := fun ds S Q ex h => by
  unfold sp_made_of at h
  split at h
  all_goals first | rfl | exact h.elim
def sp_figures_of : Sd := fun ds S Q ex => match ds with
  | [.int n] => (0 ≤ n ∧ n.natAbs < 10 ^ 200) ∧ Q (.str (mk (dec n.natAbs))) S
  | _ => False
theorem len_figures_of : ∀ ds S Q ex, sp_figures_of ds S Q ex → ds.length = 1 := fun ds S Q ex h => by
  unfold sp_figures_of at h
  split at h
  all_goals first | rfl | exact h.elim
def sp_written : Sd := fun ds S Q ex => match ds with
  | [.tup [.int t, .int b]] => (t.natAbs < 10 ^ 200 ∧ 1 ≤ b ∧ b.natAbs < 10 ^ 200) ∧ Q (.str (mk (textOf t b))) S
  | _ => False
theorem len_written : ∀ ds S Q ex, sp_written ds S Q ex → ds.length = 1 := fun ds S Q ex h => by
  unfold sp_written at h
  split at h
  all_goals first | rfl | exact h.elim
def sp_number_of (cNoRow : Addr) (cNoNumber : Addr) : Sd := fun ds S Q ex => match ds with
  | [.str w] => w.length ≤ 900 ∧ (∀ t b : Int, IsNum (cs w) t b → Q (.tup [.int t, .int b]) S) ∧ (Bad (cs w) → ex cNoRow S)
  | _ => False
theorem len_number_of (cNoRow : Addr) (cNoNumber : Addr) : ∀ ds S Q ex, sp_number_of cNoRow cNoNumber ds S Q ex → ds.length = 1 := fun ds S Q ex h => by
  unfold sp_number_of at h
  split at h
  all_goals first | rfl | exact h.elim
def sp_law_cell_at : Sd := fun ds S Q ex => match ds with
  | [.ref n, .int k] => ∃ ns : List Int, S[n]? = some (.frz (ns.map D.int)) ∧ 0 ≤ k ∧ Q (.int (ns.getD k.toNat 0)) S
  | _ => False
theorem len_law_cell_at : ∀ ds S Q ex, sp_law_cell_at ds S Q ex → ds.length = 2 := fun ds S Q ex h => by
  unfold sp_law_cell_at at h
  split at h
  all_goals first | rfl | exact h.elim
def sp_law_whole : Sd := fun ds S Q ex => match ds with
  | [.int _] => Q (.bl true) S
  | _ => False
theorem len_law_whole : ∀ ds S Q ex, sp_law_whole ds S Q ex → ds.length = 1 := fun ds S Q ex h => by
  unfold sp_law_whole at h
  split at h
  all_goals first | rfl | exact h.elim
def sp_law_divisor : Sd := fun ds S Q ex => match ds with
  | [.int a, .int b] => (0 ≤ a ∧ 0 ≤ b) ∧ Q (.int ((Int.gcd a b : Nat) : Int)) S
  | _ => False
theorem len_law_divisor : ∀ ds S Q ex, sp_law_divisor ds S Q ex → ds.length = 2 := fun ds S Q ex h => by
  unfold sp_law_divisor at h
  split at h
  all_goals first | rfl | exact h.elim
def sp_law_text : Sd := fun ds S Q ex => match ds with
  | [.int t, .int b] => (t.natAbs < 10 ^ 200 ∧ 1 ≤ b ∧ b.natAbs < 10 ^ 200) ∧ Q (.str (mk (textOf t b))) S
  | _ => False
theorem len_law_text : ∀ ds S Q ex, sp_law_text ds S Q ex → ds.length = 2 := fun ds S Q ex h => by
  unfold sp_law_text at h
  split at h
  all_goals first | rfl | exact h.elim
def sp_law_other (cNoRow : Addr) : Sd := fun ds S Q ex => match ds with
  | [.exc c] => c = cNoRow ∧ Q (.bl false) S
  | _ => False
theorem len_law_other (cNoRow : Addr) : ∀ ds S Q ex, sp_law_other cNoRow ds S Q ex → ds.length = 1 := fun ds S Q ex h => by
  unfold sp_law_other at h
  split at h
  all_goals first | rfl | exact h.elim
def sp_law_refused : Sd := fun ds S Q ex => match ds with
  | [.str w] => w.length ≤ 900 ∧ Bad (cs w) ∧ Q (.bl true) S
  | _ => False
theorem len_law_refused : ∀ ds S Q ex, sp_law_refused ds S Q ex → ds.length = 1 := fun ds S Q ex h => by
  unfold sp_law_refused at h
  split at h
  all_goals first | rfl | exact h.elim
def sp_law_no_number : Sd := fun ds S Q ex => match ds with
  | [.int _, .int _, .str x, .int t, .int b] => (x = mk (textOf t b) ∧ t.natAbs < 10 ^ 9 ∧ 1 ≤ b ∧ b < 10 ^ 9) ∧ ∀ w : Str, w.length ≤ 100 → Bad (cs w) → Q (.str w) S
  | _ => False
theorem len_law_no_number : ∀ ds S Q ex, sp_law_no_number ds S Q ex → ds.length = 5 := fun ds S Q ex h => by
  unfold sp_law_no_number at h
  split at h
  all_goals first | rfl | exact h.elim
section
variable {P : Program} {w : World} {K : PySem.W.Frag} {mg : Str → Option Value} {base : Heap}
def mk_is_whole  (d_is_whole : Df K mg "is_whole" s_is_whole ["value"]) (z_isinstance : mg "isinstance" = none) (z_bool : mg "bool" = none) (z_int : mg "int" = none) (kit_bool : Kit K "bool") (kit_int : Kit K "int") : Fk P w K mg base 1 "is_whole" ["value"] sp_is_whole :=
  d_is_whole.mk' (fun_ok (k := 0) d_is_whole.F sc_is_whole (len_is_whole) fun cdv A outer s H E hr => ⟨_, (pds_one (pds_ret (pd_and (pd_inst kit_int rfl z_isinstance rfl z_int PyProof.Rows.Boot.«int» (dv 0)) (pd_one (pd_not (pd_inst kit_bool rfl z_isinstance rfl z_bool PyProof.Rows.Boot.«bool» (dv 0))))))), fun ds S Q ex h => by
    unfold sp_is_whole at h
    split at h
    · exact h
    · exact h.elim⟩)
def mk_greatest_divisor  (d_greatest_divisor : Df K mg "greatest_divisor" s_greatest_divisor ["one", "other"]) : Fk P w K mg base 1 "greatest_divisor" ["one", "other"] sp_greatest_divisor :=
  d_greatest_divisor.mk' (fun_ok (k := 0) d_greatest_divisor.F sc_greatest_divisor (len_greatest_divisor) fun cdv A outer s H E hr => ⟨_, (pds_cons (pds_while PassesOwn.never (pdt_cmp (do_ne hr) (dv 1) pd_int (nomark _)) (pds_cons (pds_set (i := 2) sc_greatest_divisor.nd rfl (Or.inl rfl) (pd_op do_mod (dv 0) (dv 1))) (pds_cons (pds_set (i := 0) sc_greatest_divisor.nd rfl (Or.inl rfl) (dv 1)) (pds_one (pds_set (i := 1) sc_greatest_divisor.nd rfl (Or.inl rfl) (dv 2)))))) (pds_one (pds_ret (dv 0)))), fun ds S Q ex h => by
    unfold sp_greatest_divisor at h
    split at h
    · rename_i a b
      obtain ⟨⟨ha, hb⟩, h⟩ := h
      refine ⟨fun m dl' S' => S' = S ∧ ∃ (x y : Int) (o : Option D), dl' = [some (.int x), some (.int y), o] ∧ 0 ≤ x ∧ 0 ≤ y ∧ Int.gcd x y = Int.gcd a b ∧ m = y.toNat, ⟨b.toNat, rfl, a, b, none, rfl, ha, hb, rfl, rfl⟩, ?_⟩
      rintro m dl' S' ⟨rfl, x, y, o, rfl, hx, hy, hg, rfl⟩
      refine ifN (fun c => ?_) (fun c => ?_)
      · have c' : 0 < y := by omega
        exact ⟨c', ⟨(x % y).toNat, by have := mod_range (a := x) c'; omega, rfl, y, x % y, _, rfl, hy, (mod_range (a := x) c').1, (gcd_step x y).trans hg, rfl⟩⟩
      · subst c
        have e : ((Int.gcd a b : Nat) : Int) = x := by rw [← hg, Int.gcd_zero_right]; omega
        rw [e] at h
        exact h
    · exact h.elim⟩)
def mk_fraction  (d_fraction : Df K mg "fraction" s_fraction ["top", "bottom"]) (E_NoNumber : Ec K mg "NoNumber") (G_greatest_divisor : Fk P w K mg base 1 "greatest_divisor" ["one", "other"] sp_greatest_divisor) (G_is_whole : Fk P w K mg base 1 "is_whole" ["value"] sp_is_whole) (z_abs : mg "abs" = none) : Fk P w K mg base 2 "fraction" ["top", "bottom"] (sp_fraction E_NoNumber.c) :=
  d_fraction.mk' (fun_okX (k := 1) d_fraction.F sc_fraction (len_fraction E_NoNumber.c) fun cdv A outer s H E ex hr hpx hrx => ⟨_, (pds_cons (pds_if (PDW.pt (pdw_or (pdt_not (pdt_val (pd_callF G_is_whole (hr.mono (by decide)) hpx rfl (pda_cons (dv 0) pda_nil)))) (pdw_or (pdt_not (pdt_val (pd_callF G_is_whole (hr.mono (by decide)) hpx rfl (pda_cons (dv 1) pda_nil)))) (pdw_or1 (pdt_cmp (do_eq hr) (dv 1) pd_int (nomark _)))))) (pds_one (pds_raise E_NoNumber.xc PySem.F.excBase_ValueError hrx hr.hd rfl (pda_cons pd_str pda_nil))) pds_nil) (pds_cons (pds_set (i := 2) sc_fraction.nd rfl (Or.inl rfl) (pd_callF G_greatest_divisor (hr.mono (by decide)) hpx rfl (pda_cons (pd_callB dc_abs rfl z_abs PyProof.Rows.Boot.«abs» (pda_cons (dv 0) pda_nil)) (pda_cons (pd_callB dc_abs rfl z_abs PyProof.Rows.Boot.«abs» (pda_cons (dv 1) pda_nil)) pda_nil)))) (pds_cons (pds_if (pdt_cmp do_lt (dv 1) pd_int (nomark _)) (pds_one (pds_set (i := 2) sc_fraction.nd rfl (Or.inl rfl) (pd_un do_neg (dv 2)))) pds_nil) (pds_one (pds_ret (pd_tup (pda_cons (pd_op do_fdivN (dv 0) (dv 2)) (pda_cons (pd_op do_fdivN (dv 1) (dv 2)) pda_nil)))))))), fun ds S Q h => by
    unfold sp_fraction at h
    split at h
    · rename_i T B
      rcases h with ⟨hB, h⟩ | ⟨⟨hB, sB⟩, h⟩
      · exact ifT (decide_eq_true hB) h
      · have e : ((Int.gcd (absI T) (absI B) : Nat) : Int) = ((Int.gcd T B : Nat) : Int) := by rw [gcd_absI]
        have sg : Sz 4000 ((Int.gcd T B : Nat) : Int) := by
          have gle : Int.gcd T B ≤ B.natAbs := Nat.le_of_dvd (by omega) (Int.gcd_dvd_natAbs_right T B)
          unfold Sz at sB ⊢
          omega
        refine ifD (fun c => absurd c hB) (fun c => ?_)
        refine ⟨⟨absI_nn T, absI_nn B⟩, ?_⟩
        refine ifD (fun c2 => ?_) (fun c2 => ?_)
        · have f := frac_facts (T := T) (B := B) (d := -((Int.gcd (absI T) (absI B) : Nat) : Int)) hB (by rw [if_pos c2, e])
          obtain ⟨f1, f2, f3, f4, f5, f6⟩ := f
          have s2 : Sz 4000 (-((Int.gcd (absI T) (absI B) : Nat) : Int)) := by rw [e]; exact sg.neg
          exact ⟨⟨f1, s2.log f1⟩, ⟨f1, s2.log f1⟩, h _ _ f4 f6 f5 (frac_size f1 f2) (frac_size f1 f3)⟩
        · have f := frac_facts (T := T) (B := B) (d := ((Int.gcd (absI T) (absI B) : Nat) : Int)) hB (by rw [if_neg c2, e])
          obtain ⟨f1, f2, f3, f4, f5, f6⟩ := f
          have s2 : Sz 4000 ((Int.gcd (absI T) (absI B) : Nat) : Int) := by rw [e]; exact sg
          exact ⟨⟨f1, s2.log f1⟩, ⟨f1, s2.log f1⟩, h _ _ f4 f6 f5 (frac_size f1 f2) (frac_size f1 f3)⟩
    · exact h.elim⟩)
def mk_made_of  (d_made_of : Df K mg "made_of" s_made_of ["word", "signs", "most"]) (z_all : mg "all" = none) (z_len : mg "len" = none) : Fk P w K mg base 1 "made_of" ["word", "signs", "most"] sp_made_of :=
  d_made_of.mk' (fn_gc (fun_ok (k := 0) d_made_of.F sc_made_of (gcs_len (len_made_of)) fun cdv A outer s H E hr => ⟨_, (pds_one (pds_ret (pd_and (pd_chain do_le do_le pd_int (pd_callB dc_lenS rfl z_len PyProof.Rows.Boot.«len» (pda_cons (dv 0) pda_nil)) (dv 2)) (pd_one (pd_callB (dc_irr (dc_all rfl)) rfl z_all PyProof.Rows.Boot.«all» (pda_cons (pd_compS (x := "sign") (N := ["signs"]) (caps := [1]) (ar := defScope s_made_of) rfl rfl ⟨rfl, by decide +kernel, by decide +kernel, rfl, by decide +kernel, by decide +kernel⟩ rfl (by decide) (dv 0) (fun _ _ _ _ _ _ => pdts_nil) (fun _ _ _ _ _ _ => (pd_cmp do_inS (dv 0) (dv 1) rfl))) pda_nil)))))), fun ds S Q ex h => by
    obtain ⟨Q0, ex0, rfl, rfl, h⟩ := h
    unfold sp_made_of at h
    split at h
    · rename_i w sg m
      obtain ⟨hl, h⟩ := h
      refine ⟨hl, ifD (fun e1 => ?_) (fun e1 => ?_)⟩
      · refine ifD (fun e2 => ?_) (fun e2 => ?_)
        · refine compS_pure (z := w) (fun c => .bl (decide (c ∈ sg.cps.toList))) (fun K hK => hK) hl (fun c hc S2 K _ hK => ⟨c, rfl, hK⟩) ?_
          apply all_at
          · exact at_last _ _
          · exact bools_map _ _
          rw [decide_eq_true e1, decide_eq_true e2, Bool.true_and, Bool.true_and] at h
          refine ⟨Pre.refl.push, .bl _, ?_⟩
          rw [all_map]
          exact h
        · rw [decide_eq_false e2, Bool.and_false, Bool.false_and] at h
          exact ⟨Pre.refl, .bl _, h⟩
      · rw [decide_eq_false e1, Bool.false_and, Bool.false_and] at h
        exact ⟨Pre.refl, .bl _, h⟩
    · exact h.elim⟩))
def mk_figures_of  (d_figures_of : Df K mg "figures_of" s_figures_of ["number"]) (z_reversed : mg "reversed" = none) (z_str : mg "str" = none) : Fk P w K mg base 1 "figures_of" ["number"] sp_figures_of :=
  d_figures_of.mk' (fn_gc (fun_ok (k := 0) d_figures_of.F sc_figures_of (gcs_len (len_figures_of)) fun cdv A outer s H E hr => ⟨_, (pds_cons (pds_set (i := 1) sc_figures_of.nd rfl (Or.inl rfl) (pd_op do_powL pd_int pd_int)) (pds_cons (pds_set (i := 2) sc_figures_of.nd rfl (Or.inl rfl) (pd_lst pda_nil)) (pds_cons (pds_while PassesOwn.never (pdt_cmp do_ge (dv 0) (dv 1) (nomark _)) (pds_cons (pds_expr (pd_append (dv 2) (pd_zfill (pd_callTy (dc_irr dc_strI) rfl z_str PyProof.Rows.Boot.«str» (pda_cons (pd_op do_mod (dv 0) (dv 1)) pda_nil)) (pda_cons pd_int pda_nil)))) (pds_one (pds_set (i := 0) sc_figures_of.nd rfl (Or.inl rfl) (pd_op do_fdiv (dv 0) (dv 1)))))) (pds_cons (pds_expr (pd_append (dv 2) (pd_callTy (dc_irr dc_strI) rfl z_str PyProof.Rows.Boot.«str» (pda_cons (dv 0) pda_nil)))) (pds_one (pds_ret (pd_joinR rfl rfl z_reversed PyProof.Rows.Boot.«reversed» pd_str (dv 2)))))))), fun ds S Q ex h => by
    obtain ⟨Q0, ex0, rfl, rfl, h⟩ := h
    unfold sp_figures_of at h
    split at h
    · rename_i n
      obtain ⟨⟨n0, nb⟩, h⟩ := h
      have eP : (10 : Int) ^ Int.toNat 64 = 10 ^ 64 := rfl
      have sP : Sz 220 ((10 : Int) ^ Int.toNat 64) := by unfold Sz; decide
      refine ⟨fun m dl' S' => ∃ (k : Int) (ls : List (List Nat)), 0 ≤ k ∧ S' = S ++ [.lst (ls.map fun l => D.str (mk l))] ∧ dl' = [some (.int k), some (.int (10 ^ Int.toNat 64)), some (.ref S.length)] ∧ dec n.natAbs = dec k.natAbs ++ ls.reverse.flatten ∧ (∀ l ∈ ls, l.length = 64) ∧ ls.length ≤ 3 ∧ k.natAbs * (10 ^ 64) ^ ls.length < 10 ^ 200 ∧ m = k.toNat, ⟨n.toNat, n, [], n0, rfl, rfl, by simp, by simp, by simp, by simpa using nb, rfl⟩, ?_⟩
      rintro m dl' S' ⟨k, ls, k0, rfl, rfl, ed, el, l3, kb, rfl⟩
      refine ifD (fun c => ?_) (fun c => ?_)
      · have c' : (10 : Int) ^ 64 ≤ k := c
        have kn : 10 ^ 64 ≤ k.natAbs := by omega
        have l2 : ls.length ≤ 2 := by
          by_cases z : ls.length = 3
          · rw [z] at kb
            have := Nat.mul_le_mul_right ((10 ^ 64) ^ 3) kn
            have e : (10 : Nat) ^ 64 * (10 ^ 64) ^ 3 = 10 ^ 256 := by decide
            have e2 : (10 : Nat) ^ 200 ≤ 10 ^ 256 := by decide
            omega
          · omega
        have rr := mod_range (a := k) (b := 10 ^ Int.toNat 64) (by decide)
        have er : k % 10 ^ Int.toNat 64 = ((k.natAbs % 10 ^ 64 : Nat) : Int) := by rw [eP]; omega
        have eq' : (k / 10 ^ Int.toNat 64).natAbs = k.natAbs / 10 ^ 64 := by rw [eP]; omega
        have lr : (dec (k.natAbs % 10 ^ 64)).length ≤ 64 := dec_len (by decide) (Nat.mod_lt _ (by decide))
        refine app_last (S := S) (xs := ls.map fun l => D.str (mk l)) (y := .str (mk (pad 64 (k.natAbs % 10 ^ 64)))) (fun K hK => by exact hK) (fun K hK => ?_) (by rw [List.length_map]; omega) ?_
        · refine txt1_at (S1 := S ++ [.lst (ls.map fun l => D.str (mk l))]) (S2 := S ++ [.lst (ls.map fun l => D.str (mk l))]) (x := mk (dec (k.natAbs % 10 ^ 64))) (y := .int 64) (fun K hK => ?_) (fun K hK => by exact hK) ⟨⟨by decide, by decide⟩, ?_⟩
          · refine ⟨show (0 : Int) < 10 ^ Int.toNat 64 by decide, ?_⟩
            refine strI_at (log2_of (k := 64) (by show (k % 10 ^ Int.toNat 64).natAbs < _; rw [er, Int.natAbs_natCast]; exact Nat.mod_lt _ (by decide)) (by decide)) ?_
            show K (.str (Str.ofString (toString (k % 10 ^ Int.toNat 64)))) _
            rw [str_num, num_nn (by omega), er, Int.natAbs_natCast]
            exact hK
          · show K (.str (Txt.zfill (mk (dec (k.natAbs % 10 ^ 64))) 64)) _
            rw [zfill_dec lr]
            exact hK
        · refine ⟨sP.fd (by decide), ?_⟩
          refine ⟨(k / 10 ^ Int.toNat 64).toNat, ?_, k / 10 ^ Int.toNat 64, ls ++ [pad 64 (k.natAbs % 10 ^ 64)], ?_, by rw [List.map_append]; rfl, rfl, ?_, ?_, by simp; omega, ?_, rfl⟩
          · rw [eP]; omega
          · rw [eP]; omega
          · rw [ed, eq', List.reverse_append, List.reverse_singleton, List.singleton_append, List.flatten_cons, ← List.append_assoc]
            congr 1
            have z := dec_pad (q := k.natAbs / 10 ^ 64) (by omega) 64 (k.natAbs % 10 ^ 64) (by decide) (Nat.mod_lt _ (by decide))
            rw [Nat.div_add_mod' k.natAbs (10 ^ 64)] at z
            exact z
          · intro l hl
            rcases List.mem_append.mp hl with z | z
            · exact el l z
            · have e : l = pad 64 (k.natAbs % 10 ^ 64) := by simpa using z
              rw [e]
              unfold pad
              rw [List.length_append, List.length_replicate]
              omega
          · rw [eq', List.length_append, List.length_singleton]
            exact step_bound kb
      · have c' : ¬ (10 : Int) ^ 64 ≤ k := c
        have lk : (dec k.natAbs).length ≤ 64 := dec_len (by decide) (by omega)
        refine app_last (S := S) (xs := ls.map fun l => D.str (mk l)) (y := .str (mk (dec k.natAbs))) (fun K hK => by exact hK) (fun K hK => ?_) (by rw [List.length_map]; omega) ?_
        · refine strI_at (log2_of (k := 64) (by omega) (by decide)) ?_
          rw [str_num, num_nn k0]
          exact hK
        · have em : (ls.map fun l => D.str (mk l)) ++ [D.str (mk (dec k.natAbs))] = (ls ++ [dec k.natAbs]).map fun l => D.str (mk l) := by rw [List.map_append]; rfl
          rw [em]
          refine joinR_at (sep := "") (n := S.length) (S1 := S ++ [.lst ((ls ++ [dec k.natAbs]).map fun l => D.str (mk l))]) (S2 := S ++ [.lst ((ls ++ [dec k.natAbs]).map fun l => D.str (mk l))]) (ds := (ls ++ [dec k.natAbs]).map fun l => D.str (mk l)) (zs := (ls ++ [dec k.natAbs]).map mk) (fun K hK => by exact hK) (fun K hK => by exact hK) (at_last _ _) (strs_mk _) (by decide) (fun z hz => ?_) (by simp; omega) ?_
          · obtain ⟨l, hl, rfl⟩ := List.mem_map.mp hz
            rw [mk_len]
            rcases List.mem_append.mp hl with z | z
            · rw [el l z]; decide
            · have e : l = dec k.natAbs := by simpa using z
              rw [e]; omega
          · rw [← List.map_reverse, flat_mk, List.reverse_append, List.reverse_singleton, List.singleton_append, List.flatten_cons, ← ed]
            exact ⟨Pre.refl.push, .str _, h⟩
    · exact h.elim⟩))
def mk_written  (d_written : Df K mg "written" s_written ["a"]) (G_figures_of : Fk P w K mg base 1 "figures_of" ["number"] sp_figures_of) (z_abs : mg "abs" = none) : Fk P w K mg base 2 "written" ["a"] sp_written :=
  d_written.mk' (fun_ok (k := 1) d_written.F sc_written (len_written) fun cdv A outer s H E hr => ⟨_, (pds_cons (pds_set (i := 1) sc_written.nd rfl (Or.inl rfl) (pd_callF G_figures_of (hr.mono (by decide)) pass_nox rfl (pda_cons (pd_callB dc_abs rfl z_abs PyProof.Rows.Boot.«abs» (pda_cons (pd_ix (dv 0) pd_int (fun _ _ => rfl)) pda_nil)) pda_nil))) (pds_cons (pds_if (pdt_cmp do_lt (pd_ix (dv 0) pd_int (fun _ _ => rfl)) pd_int (nomark _)) (pds_one (pds_set (i := 1) sc_written.nd rfl (Or.inl rfl) (pd_op do_addS pd_str (dv 1)))) pds_nil) (pds_cons (pds_if (pdt_cmp (do_ne hr) (pd_ix (dv 0) pd_int (fun _ _ => rfl)) pd_int (nomark _)) (pds_one (pds_set (i := 1) sc_written.nd rfl (Or.inl rfl) (pd_op do_addS (pd_op do_addS (dv 1) pd_str) (pd_callF G_figures_of (hr.mono (by decide)) pass_nox rfl (pda_cons (pd_ix (dv 0) pd_int (fun _ _ => rfl)) pda_nil))))) pds_nil) (pds_one (pds_ret (dv 1)))))), fun ds S Q ex h => by
    unfold sp_written at h
    split at h
    · rename_i t b
      obtain ⟨⟨ht, b1, hb⟩, h⟩ := h
      have l1 := num_len (k := 200) (by decide) ht
      have d1 := dec_len (k := 200) (by decide) ht
      have d2 := dec_len (k := 200) (by decide) hb
      have eabs : (if t < 0 then -t else t).natAbs = t.natAbs := by split <;> omega
      refine ⟨⟨absI_nn t, by show (if t < 0 then -t else t).natAbs < _; rw [eabs]; exact ht⟩, ?_⟩
      have fin : ∀ x : Str, x = mk (num t) → dIf (dTest (dOp (wNe eq2) (dOp wIx (dVar 0) (dC (D.int 1))) (dC (D.int 1)))) (dSet 1 (dOp wAddS (dOp wAddS (dVar 1) (dC (D.str "/"))) (dCallF (fun _ _ _ => False) sp_figures_of (dCons (dOp wIx (dVar 0) (dC (D.int 1))) dNil)))) dNext { nx := fun dl' S' => dRet (dVar 1) { nx := fun _ S' => Q .non S', rt := Q } dl' S', rt := Q } [some (.tup [.int t, .int b]), some (.str x)] S := fun x ex' => by
        subst ex'
        refine ifN (fun e => ?_) (fun e => ?_)
        · have s1 : mk (num t) ++ ("/" : Str) = mk (num t ++ [47]) := by rw [stroke]; exact mk_app (num t) [47]
          refine ⟨by rw [mk_len]; show _ + 1 ≤ 1000; omega, ?_⟩
          refine ⟨⟨by omega, hb⟩, ?_⟩
          refine ⟨by rw [s1, mk_len, mk_len]; simp; omega, ?_⟩
          have s2 : mk (num t) ++ ("/" : Str) ++ mk (dec b.natAbs) = mk (textOf t b) := by
            rw [s1, mk_app, List.append_assoc]
            unfold textOf
            rw [if_neg e, num_nn (show 0 ≤ b by omega)]
            rfl
          show Q (.str (mk (num t) ++ ("/" : Str) ++ mk (dec b.natAbs))) S
          rw [s2]
          exact h
        · have s2 : mk (num t) = mk (textOf t b) := by
            unfold textOf
            rw [if_pos e, List.append_nil]
          show Q (.str (mk (num t))) S
          rw [s2]
          exact h
      refine ifD (fun e => ?_) (fun e => ?_)
      · refine ⟨by show 1 + (mk (dec _)).length ≤ 1000; rw [mk_len, eabs]; omega, ?_⟩
        refine fin _ ?_
        show ("-" : Str) ++ mk (dec (if t < 0 then -t else t).natAbs) = mk (num t)
        rw [eabs, minus1, num_neg e]
        exact mk_app [45] _
      · refine fin _ ?_
        show mk (dec (if t < 0 then -t else t).natAbs) = mk (num t)
        rw [eabs, num_nn (by omega)]
    · exact h.elim⟩)
def mk_number_of  {t_MOST_FIGURES : Tok} {t_FIGURES : Tok} (d_number_of : Df K mg "number_of" s_number_of ["word"]) (E_NoRow : Ec K mg "NoRow") (E_NoNumber : Ec K mg "NoNumber") (G_written : Fk P w K mg base 2 "written" ["a"] sp_written) (G_fraction : Fk P w K mg base 2 "fraction" ["top", "bottom"] (sp_fraction E_NoNumber.c)) (G_made_of : Fk P w K mg base 1 "made_of" ["word", "signs", "most"] sp_made_of) (g_MOST_FIGURES : mg "MOST_FIGURES" = some (.int 9 t_MOST_FIGURES)) (g_FIGURES : mg "FIGURES" = some (.str "0123456789" t_FIGURES)) (z_int : mg "int" = none) : Fk P w K mg base 3 "number_of" ["word"] (sp_number_of E_NoRow.c E_NoNumber.c) :=
  d_number_of.mk' (fun_okX (k := 2) d_number_of.F sc_number_of (len_number_of E_NoRow.c E_NoNumber.c) fun cdv A outer s H E ex hr hpx hrx => ⟨_, (pds_cons (pds_set (i := 1) sc_number_of.nd rfl (Or.inl rfl) (pd_part (dv 0) (pda_cons pd_str pda_nil))) (pds_cons (pds_set (i := 2) sc_number_of.nd rfl (Or.inl rfl) (pd_ix (dv 1) pd_int (fun _ _ => rfl))) (pds_cons (pds_set (i := 3) sc_number_of.nd rfl (Or.inl rfl) (pd_ifExp (pdt_cmp (do_eq hr) (pd_ix (dv 1) pd_int (fun _ _ => rfl)) pd_str (nomark _)) (pd_ix (dv 1) pd_int (fun _ _ => rfl)) pd_str)) (pds_cons (pds_set (i := 4) sc_number_of.nd rfl (Or.inl rfl) (pd_ifExp (pdt_val (pd_starts (dv 2) (pda_cons pd_str pda_nil))) (pd_slS (dv 2) (pdo_some pd_int) pdo_none) (dv 2))) (pds_cons (pds_if (PDW.pt (pdw_or (pdt_not (pdt_val (pd_callF G_made_of (hr.mono (by decide)) hpx rfl (pda_cons (dv 4) (pda_cons (pd_globS g_FIGURES rfl) (pda_cons (pd_globI g_MOST_FIGURES rfl) pda_nil)))))) (pdw_or1 (pdt_not (pdt_val (pd_callF G_made_of (hr.mono (by decide)) hpx rfl (pda_cons (dv 3) (pda_cons (pd_globS g_FIGURES rfl) (pda_cons (pd_globI g_MOST_FIGURES rfl) pda_nil))))))))) (pds_one (pds_raise E_NoRow.xc PySem.F.excBase_ValueError hrx hr.hd rfl (pda_cons pd_str pda_nil))) pds_nil) (pds_cons (pds_if (pdt_cmp (do_eq hr) (pd_callTy (dc_irr dc_intS) rfl z_int PyProof.Rows.Boot.«int» (pda_cons (dv 3) pda_nil)) pd_int (nomark _)) (pds_one (pds_raise E_NoRow.xc PySem.F.excBase_ValueError hrx hr.hd rfl (pda_cons pd_str pda_nil))) pds_nil) (pds_cons (pds_set (i := 5) sc_number_of.nd rfl (Or.inl rfl) (pd_callF G_fraction (hr.mono (by decide)) hpx rfl (pda_cons (pd_callTy (dc_irr dc_intS) rfl z_int PyProof.Rows.Boot.«int» (pda_cons (dv 2) pda_nil)) (pda_cons (pd_callTy (dc_irr dc_intS) rfl z_int PyProof.Rows.Boot.«int» (pda_cons (dv 3) pda_nil)) pda_nil)))) (pds_cons (pds_if (pdt_cmp (do_ne hr) (pd_callF G_written (hr.mono (by decide)) hpx rfl (pda_cons (dv 5) pda_nil)) (dv 0) (nomark _)) (pds_one (pds_raise E_NoRow.xc PySem.F.excBase_ValueError hrx hr.hd rfl (pda_cons pd_str pda_nil))) pds_nil) (pds_one (pds_ret (dv 5))))))))))), fun ds S Q h => by
    unfold sp_number_of at h
    split at h
    · rename_i w
      obtain ⟨hl, h1, h2⟩ := h
      have lw := len_list w
      refine cut4 (α := D × List Nat × List Nat × List Nat) (fun a => match a with | ⟨d, T, B, F⟩ => [some (.str w), some d, some (.str (mk T)), some (.str (mk B)), some (.str (mk F)), none]) (fun a => match a with | ⟨_, T, B, F⟩ => Shape (cs w) T B ∧ Sig T F) (fun main => ?_) ?_
      · have sig : ∀ (d : D) (T B : List Nat) (nx : Ev → Sto → Prop), Shape (cs w) T B → T.length ≤ 900 → (∀ F, Sig T F → nx [some (.str w), some d, some (.str (mk T)), some (.str (mk B)), some (.str (mk F)), none] S) → dSet 4 (dIfE (dTest (dTxt1 wStarts (dVar 2) (dCons (dC (D.str "-")) dNil))) (dSlS (dVar 2) (dPart (dC (D.int 1))) dNoPart) (dVar 2)) { nx := nx, rt := Q } [some (.str w), some d, some (.str (mk T)), some (.str (mk B)), none, none] S := fun d T B nx sh lT go => by
          refine txt1_at (S1 := S) (S2 := S) (x := mk T) (y := .str "-") (fun K hK => by exact hK) (fun K hK => by exact hK) ?_
          show if Txt.startswith (mk T) "-" = true then _ else _
          rw [starts_minus, cs_mk]
          refine ifD (fun c => ?_) (fun c => ?_)
          · cases T with
            | nil => cases c
            | cons x r =>
              have ex' : x = 45 := by simpa using c
              subst ex'
              refine ⟨by rw [mk_len]; omega, ?_⟩
              have et := tail_text (x := mk (45 :: r)) (r := r) (cs_mk _)
              show nx (List.set _ 4 (some (.str (StrLaws.sliceText (mk (45 :: r)) (some 1) none)))) S
              rw [et]
              exact go r (.inl rfl)
          · exact go T (.inr ⟨rfl, c⟩)
        by_cases h47 : 47 ∈ cs w
        · obtain ⟨A', B, e, nA⟩ := first_stroke _ h47
          refine txt1_at (S1 := S) (S2 := S) (x := w) (y := .str "/") (fun K hK => by exact hK) (fun K hK => by exact hK) ⟨⟨by decide, by omega⟩, ?_⟩
          rw [part_some e nA]
          have lA : A'.length ≤ 900 := by
            have : (cs w).length = A'.length + (B.length + 1) := by rw [e]; simp
            omega
          exact sig _ A' B _ ⟨.inr e, nA⟩ lA (fun F sg => main (_, A', B, F) ⟨⟨.inr e, nA⟩, sg⟩)
        · refine txt1_at (S1 := S) (S2 := S) (x := w) (y := .str "/") (fun K hK => by exact hK) (fun K hK => by exact hK) ⟨⟨by decide, by omega⟩, ?_⟩
          rw [part_none h47]
          have sh : Shape (cs w) (cs w) [49] := ⟨.inl ⟨rfl, rfl⟩, h47⟩
          have z := sig (.tup [.str w, .str Str.empty, .str Str.empty]) (cs w) [49] _ sh (by omega) (fun F sg => main (_, cs w, [49], F) ⟨sh, sg⟩)
          rw [mk_cs] at z
          exact z
      · rintro ⟨d, T, B, F⟩ ⟨sh, sg⟩
        have lens : T.length ≤ 900 ∧ B.length ≤ 900 ∧ F.length ≤ 900 := by
          have lT : T.length ≤ 900 ∧ B.length ≤ 900 := by
            rcases sh.1 with ⟨e, rfl⟩ | e
            · rw [← e]; exact ⟨by omega, by decide⟩
            · have : (cs w).length = T.length + (B.length + 1) := by rw [e]; simp
              omega
          refine ⟨lT.1, lT.2, ?_⟩
          rcases sg with e | ⟨e, _⟩
          · rw [e] at lT
            simp at lT
            omega
          · rw [← e]; exact lT.1
        refine ⟨by rw [mk_len]; omega, ?_⟩
        by_cases fF : figs (mk F) = true
        · refine ifF (c := !figs (mk F)) (by rw [fF]; rfl) ?_
          refine ⟨by rw [mk_len]; omega, ?_⟩
          by_cases fB : figs (mk B) = true
          · refine ifF (c := !figs (mk B)) (by rw [fB]; rfl) ?_
            have gF := (figs_iff _).mp fF
            have gB := (figs_iff _).mp fB
            rw [cs_mk] at gF gB
            obtain ⟨rB, _⟩ := read_figures gB.2.2 gB.1 (by omega)
            obtain ⟨rF1, rF2⟩ := read_figures gF.2.2 gF.1 (by omega)
            have vF : PySem.NumText.digitsVal F < 10 ^ 9 := Nat.lt_of_lt_of_le (val_lt F gF.2.2) (Nat.pow_le_pow_right (by decide) gF.2.1)
            have vB : PySem.NumText.digitsVal B < 10 ^ 9 := Nat.lt_of_lt_of_le (val_lt B gB.2.2) (Nat.pow_le_pow_right (by decide) gB.2.1)
            refine intS_at rB (by rw [mk_len]; omega) ?_
            refine ifD (fun e0 => ?_) (fun e0 => ?_)
            · refine h2 fun t b n => ?_
              obtain ⟨_, _, eB⟩ := parts_of n sh sg
              rw [eB, dec_val] at e0
              have := n.pos
              omega
            · obtain ⟨tv, rT, av, own⟩ : ∃ tv : Int, PySem.intText? (mk T) = some tv ∧ tv.natAbs < 10 ^ 9 ∧ ∀ t b, IsNum (cs w) t b → tv = t := by
                rcases id sg with e | ⟨e, z⟩
                · refine ⟨_, by rw [e]; exact rF2, by omega, fun t b n => ?_⟩
                  obtain ⟨eT, eF, _⟩ := parts_of n sh sg
                  rw [eF, dec_val]
                  rw [e] at eT
                  unfold num at eT
                  split at eT
                  · omega
                  · have := dec_cons eT.symm
                    omega
                · refine ⟨_, by rw [e]; exact rF1, by omega, fun t b n => ?_⟩
                  obtain ⟨eT, eF, _⟩ := parts_of n sh sg
                  rw [eF, dec_val]
                  unfold num at eT
                  split at eT
                  · rw [eT] at z
                    exact absurd rfl z
                  · omega
              have lT : T.length ≤ 10 := by
                have := gF.2.1
                rcases sg with e | ⟨e, _⟩
                · rw [e, List.length_cons]; omega
                · rw [e]; omega
              refine intS_at rT (by rw [mk_len]; omega) ?_
              refine intS_at rB (by rw [mk_len]; omega) ?_
              refine .inr ⟨⟨e0, (Sz.of (n := 40) (10 ^ 9) (by omega)).mono (by decide)⟩, fun t b b1 ecr g st sb => ?_⟩
              have big : (10 : Nat) ^ 9 ≤ 10 ^ 200 := Nat.pow_le_pow_right (by decide) (by decide)
              refine ⟨⟨by omega, b1, by omega⟩, ?_⟩
              refine ifN (fun c => ?_) (fun c => ?_)
              · refine h2 fun t' b' n => c ?_
                obtain ⟨_, _, eB⟩ := parts_of n sh sg
                have et := own t' b' n
                have eb : ((PySem.NumText.digitsVal B : Nat) : Int) = b' := by
                  rw [eB, dec_val]
                  have := n.pos
                  omega
                rw [et, eb] at ecr
                obtain ⟨rfl, rfl⟩ := lowest_one b1 n.pos g n.low ecr
                refine str_ext ?_
                rw [cs_mk]
                exact n.eq.symm
              · refine h1 t b ⟨b1, g, by omega, by omega, ?_⟩
                rw [← c, cs_mk]
          · refine ifT (c := !figs (mk B)) (by simp [fB]) ?_
            refine h2 fun t b n => fB ?_
            obtain ⟨_, _, eB⟩ := parts_of n sh sg
            rw [eB]
            exact figs_dec (by have := n.bot; have := n.pos; omega)
        · refine ifT (c := !figs (mk F)) (by simp [fF]) ?_
          refine h2 fun t b n => fF ?_
          obtain ⟨_, eF, _⟩ := parts_of n sh sg
          rw [eF]
          exact figs_dec n.top
    · exact h.elim⟩)
def mk_law_cell_at  (d_law_cell_at : Df K mg "_law_cell_at" s_law_cell_at ["_law_script", "_law_k"]) (z_len : mg "len" = none) : Fk P w K mg base 1 "_law_cell_at" ["_law_script", "_law_k"] sp_law_cell_at :=
  d_law_cell_at.mk' (fun_ok (k := 0) d_law_cell_at.F sc_law_cell_at (len_law_cell_at) fun cdv A outer s H E hr => ⟨_, (pds_cons (pds_if (pdt_cmp do_lt (dv 1) (pd_callB dc_len rfl z_len PyProof.Rows.Boot.«len» (pda_cons (dv 0) pda_nil)) (nomark _)) (pds_one (pds_ret (pd_ix (dv 0) (dv 1) (fun _ _ => rfl)))) pds_nil) (pds_one (pds_ret pd_int))), fun ds S Q ex h => by
    unfold sp_law_cell_at at h
    split at h
    · rename_i n k
      obtain ⟨ns, h1, h2, h3⟩ := h
      simp only [dNext, dSeq, dDrop, dRet, dRetN, dIf, dSet, dVar, dC, dOp, dUn, wI, wI0, wIf, dTest, dNot, dAnd, dOr, dAndV, dOrV, dNotV, dIfE, dChain, dNil, dCons, dTup, dLst, wIx, dCall, dCallF, dInst, wAbs, wBest, wLen, wEq, wNe, wIsN, wNotN, wNeg, startD, List.map_cons, List.map_nil, List.length_cons, List.length_nil, List.cons_append, List.nil_append, Nat.reduceAdd, Nat.reduceSub, List.replicate, List.getElem?_cons_zero, List.getElem?_cons_succ, List.set_cons_zero, List.set_cons_succ, ite_true, ite_false, if_true, if_false, Nat.reduceLeDiff, eq_self, p40, p41, p20, litB, powB, Int.reduceLT, Int.reduceLE, Int.reduceNeg, decide_true, Bool.and_self, Bool.and_true, Bool.true_and, L3.eq1, L3.eq2, L3.eqT, L3.eqF, L3.eqL]
      have hA : lAt S n = some (.frz (ns.map D.int)) := lAt_of h1 rfl
      simp only [hA, itemsOf, List.length_map]
      refine ite2 (fun c => ?_) (fun c => ?_)
      · have c' : k < (ns.length : Int) := of_decide_eq_true c
        have hk : k.toNat < ns.length := (by omega)
        have e : atI (ns.map D.int) k = some (.int ns[k.toNat]) := by
          have z := atI_nat (xs := ns.map D.int) (j := k.toNat) (v := .int ns[k.toNat]) (by simp [hk])
          rw [show ((k.toNat : Nat) : Int) = k by omega] at z
          exact z
        simp only [e]
        rw [List.getD_eq_getElem?_getD, List.getElem?_eq_getElem hk] at h3
        exact h3
      · have c' : ¬ k < (ns.length : Int) := fun z => c (decide_eq_true z)
        rw [List.getD_eq_getElem?_getD, List.getElem?_eq_none (by omega)] at h3
        exact h3
    · exact h.elim⟩)
def mk_law_whole  (d_law_whole : Df K mg "_law_whole" s_law_whole ["_law_found"]) (z_isinstance : mg "isinstance" = none) (z_bool : mg "bool" = none) (z_int : mg "int" = none) (kit_bool : Kit K "bool") (kit_int : Kit K "int") : Fk P w K mg base 1 "_law_whole" ["_law_found"] sp_law_whole :=
  d_law_whole.mk' (fun_ok (k := 0) d_law_whole.F sc_law_whole (len_law_whole) fun cdv A outer s H E hr => ⟨_, (pds_one (pds_ret (pd_and (pd_inst kit_int rfl z_isinstance rfl z_int PyProof.Rows.Boot.«int» (dv 0)) (pd_one (pd_not (pd_inst kit_bool rfl z_isinstance rfl z_bool PyProof.Rows.Boot.«bool» (dv 0))))))), fun ds S Q ex h => by
    unfold sp_law_whole at h
    split at h
    · exact h
    · exact h.elim⟩)
def mk_law_divisor  (d_law_divisor : Df K mg "_law_divisor" s_law_divisor ["_law_a", "_law_b"]) : Fk P w K mg base 1 "_law_divisor" ["_law_a", "_law_b"] sp_law_divisor :=
  d_law_divisor.mk' (fun_ok (k := 0) d_law_divisor.F sc_law_divisor (len_law_divisor) fun cdv A outer s H E hr => ⟨_, (pds_cons (pds_while PassesOwn.never (pdt_cmp do_gt (dv 1) pd_int (nomark _)) (pds_cons (pds_set (i := 2) sc_law_divisor.nd rfl (Or.inl rfl) (pd_op do_mod (dv 0) (dv 1))) (pds_cons (pds_set (i := 0) sc_law_divisor.nd rfl (Or.inl rfl) (dv 1)) (pds_one (pds_set (i := 1) sc_law_divisor.nd rfl (Or.inl rfl) (dv 2)))))) (pds_one (pds_ret (dv 0)))), fun ds S Q ex h => by
    unfold sp_law_divisor at h
    split at h
    · rename_i a b
      obtain ⟨⟨ha, hb⟩, h⟩ := h
      refine ⟨fun m dl' S' => S' = S ∧ ∃ (x y : Int) (o : Option D), dl' = [some (.int x), some (.int y), o] ∧ 0 ≤ x ∧ 0 ≤ y ∧ Int.gcd x y = Int.gcd a b ∧ m = y.toNat, ⟨b.toNat, rfl, a, b, none, rfl, ha, hb, rfl, rfl⟩, ?_⟩
      rintro m dl' S' ⟨rfl, x, y, o, rfl, hx, hy, hg, rfl⟩
      refine ifD (fun c' => ?_) (fun c => ?_)
      · exact ⟨c', ⟨(x % y).toNat, by have := mod_range (a := x) c'; omega, rfl, y, x % y, _, rfl, hy, (mod_range (a := x) c').1, (gcd_step x y).trans hg, rfl⟩⟩
      · have c : y = 0 := by omega
        subst c
        have e : ((Int.gcd a b : Nat) : Int) = x := by rw [← hg, Int.gcd_zero_right]; omega
        rw [e] at h
        exact h
    · exact h.elim⟩)
def mk_law_text  (d_law_text : Df K mg "_law_text" s_law_text ["_law_top", "_law_bottom"]) (z_str : mg "str" = none) : Fk P w K mg base 1 "_law_text" ["_law_top", "_law_bottom"] sp_law_text :=
  d_law_text.mk' (fun_ok (k := 0) d_law_text.F sc_law_text (len_law_text) fun cdv A outer s H E hr => ⟨_, (pds_cons (pds_if (pdt_cmp (do_eq hr) (dv 1) pd_int (nomark _)) (pds_one (pds_ret (pd_callTy (dc_irr dc_strI) rfl z_str PyProof.Rows.Boot.«str» (pda_cons (dv 0) pda_nil)))) pds_nil) (pds_one (pds_ret (pd_op do_addS (pd_op do_addS (pd_callTy (dc_irr dc_strI) rfl z_str PyProof.Rows.Boot.«str» (pda_cons (dv 0) pda_nil)) pd_str) (pd_callTy (dc_irr dc_strI) rfl z_str PyProof.Rows.Boot.«str» (pda_cons (dv 1) pda_nil)))))), fun ds S Q ex h => by
    unfold sp_law_text at h
    split at h
    · rename_i t b
      obtain ⟨⟨ht, b1, hb⟩, h⟩ := h
      have l1 := num_len (k := 200) (by decide) ht
      have l2 := num_len (k := 200) (by decide) hb
      refine ifD (fun e => ?_) (fun e => ?_)
      · refine strI_at (log2_of ht (by decide)) ?_
        rw [str_num]
        unfold textOf at h
        rw [if_pos e, List.append_nil] at h
        exact h
      · refine strI_at (log2_of ht (by decide)) ?_
        rw [str_num]
        have s1 : mk (num t) ++ ("/" : Str) = mk (num t ++ [47]) := by rw [stroke]; exact mk_app (num t) [47]
        refine ⟨by rw [mk_len]; show _ + 1 ≤ 1000; omega, ?_⟩
        refine strI_at (log2_of hb (by decide)) ?_
        rw [str_num]
        show _ ∧ _
        refine ⟨by rw [s1, mk_len, mk_len]; simp; omega, ?_⟩
        unfold textOf at h
        rw [if_neg e] at h
        have s2 : mk (num t) ++ ("/" : Str) ++ mk (num b) = mk (num t ++ 47 :: num b) := by rw [s1, mk_app, List.append_assoc]; rfl
        show Q (.str (mk (num t) ++ ("/" : Str) ++ mk (num b))) S
        rw [s2]
        exact h
    · exact h.elim⟩)
def mk_law_other  (d_law_other : Df K mg "_law_other" s_law_other ["_law_e"]) (E_NoBook : Ec K mg "NoBook") (E_NoTask : Ec K mg "NoTask") (E_TooMuch : Ec K mg "TooMuch") (E_NoName : Eb K mg "NoName") (E_NoCut : Ec K mg "NoCut") (E_NoSpan : Ec K mg "NoSpan") (E_NoNumber : Ec K mg "NoNumber") (E_NoRow : Ec K mg "NoRow") (z_isinstance : mg "isinstance" = none) (nx_NoRow : Nx K E_NoRow.c) (iB_NoRow_NoBook : PySem.W.kitOne K (.ref E_NoRow.c) (.ref E_NoBook.c) = some false) (iB_NoRow_NoTask : PySem.W.kitOne K (.ref E_NoRow.c) (.ref E_NoTask.c) = some false) (iB_NoRow_TooMuch : PySem.W.kitOne K (.ref E_NoRow.c) (.ref E_TooMuch.c) = some false) (iB_NoRow_NoName : PySem.W.kitOne K (.ref E_NoRow.c) (.ref E_NoName.c) = some false) (iB_NoRow_NoCut : PySem.W.kitOne K (.ref E_NoRow.c) (.ref E_NoCut.c) = some false) (iB_NoRow_NoSpan : PySem.W.kitOne K (.ref E_NoRow.c) (.ref E_NoSpan.c) = some false) (iB_NoRow_NoNumber : PySem.W.kitOne K (.ref E_NoRow.c) (.ref E_NoNumber.c) = some false) : FkN P w K mg base 1 "_law_other" ["_law_e"] (sp_law_other E_NoRow.c) :=
  d_law_other.mkN (fun_okN (k := 0) d_law_other.F sc_law_other (len_law_other E_NoRow.c) fun cdv A outer s H E hr => ⟨_, (pds_cons (pds_if (PDW.pt (pdw_or (pdt_val (pd_instB (ans := ansOf E_NoRow.c false) (ans_of iB_NoRow_NoNumber nx_NoRow) rfl z_isinstance rfl E_NoNumber.xc.bound (dv 0))) (pdw_or (pdt_val (pd_instB (ans := ansOf E_NoRow.c false) (ans_of iB_NoRow_NoSpan nx_NoRow) rfl z_isinstance rfl E_NoSpan.xc.bound (dv 0))) (pdw_or (pdt_val (pd_instB (ans := ansOf E_NoRow.c false) (ans_of iB_NoRow_NoCut nx_NoRow) rfl z_isinstance rfl E_NoCut.xc.bound (dv 0))) (pdw_or1 (pdt_val (pd_instB (ans := ansOf E_NoRow.c false) (ans_of iB_NoRow_NoName nx_NoRow) rfl z_isinstance rfl E_NoName.bound (dv 0)))))))) (pds_one (pds_ret pd_bl)) pds_nil) (pds_one (pds_ret (pd_or (pd_instB (ans := ansOf E_NoRow.c false) (ans_of iB_NoRow_TooMuch nx_NoRow) rfl z_isinstance rfl E_TooMuch.xc.bound (dv 0)) (pd_or (pd_instB (ans := ansOf E_NoRow.c false) (ans_of iB_NoRow_NoTask nx_NoRow) rfl z_isinstance rfl E_NoTask.xc.bound (dv 0)) (pd_one (pd_instB (ans := ansOf E_NoRow.c false) (ans_of iB_NoRow_NoBook nx_NoRow) rfl z_isinstance rfl E_NoBook.xc.bound (dv 0)))))))), fun ds S Q ex h => by
    unfold sp_law_other at h
    split at h
    · obtain ⟨rfl, h⟩ := h
      refine instB_at (fun K hK => by exact hK) ?_
      refine instB_at (fun K hK => by exact hK) ?_
      refine instB_at (fun K hK => by exact hK) ?_
      refine instB_at (fun K hK => by exact hK) ?_
      refine instB_at (fun K hK => by exact hK) ?_
      refine instB_at (fun K hK => by exact hK) ?_
      refine instB_at (fun K hK => by exact hK) ?_
      exact h
    · exact h.elim⟩)
def mk_law_refused  (d_law_refused : Df K mg "_law_refused" s_law_refused ["_law_word"]) (E_NoRow : Ec K mg "NoRow") (E_BoxError : Ec K mg "BoxError") (E_NoNumber : Ec K mg "NoNumber") (G_number_of : Fk P w K mg base 3 "number_of" ["word"] (sp_number_of E_NoRow.c E_NoNumber.c)) (G_law_other : FkN P w K mg base 1 "_law_other" ["_law_e"] (sp_law_other E_NoRow.c)) (z_isinstance : mg "isinstance" = none) (z_ValueError : mg "ValueError" = none) (nx_NoRow : Nx K E_NoRow.c) (iB_NoRow_NoRow : PySem.W.kitOne K (.ref E_NoRow.c) (.ref E_NoRow.c) = some true) (s_NoRow_BoxError : PySem.W.exmOne K (.ref E_NoRow.c) (.ref E_BoxError.c) = some true) (iT_NoRow_ValueError : PySem.W.kitOne K (.ref E_NoRow.c) (.type "ValueError") = some true) : Fk P w K mg base 4 "_law_refused" ["_law_word"] sp_law_refused :=
  d_law_refused.mk' (fun_ok (k := 3) d_law_refused.F sc_law_refused (len_law_refused) fun cdv A outer s H E hr => ⟨_, (pds_cons (pds_set (i := 1) sc_law_refused.nd rfl (Or.inl rfl) pd_bl) (pds_cons (pds_tryA (i := 2) (hit := hitOf E_NoRow.c) rfl rfl rfl (fun _ _ z => nomatch (show (Option.none : Option Addr) = some _ from z)) rfl sc_law_refused.nd rfl rfl E_BoxError.xc.bound rfl (hit_of s_NoRow_BoxError) (fun pins xe ex W hx' => (pds_one (pds_expr (pd_callF G_number_of (hr.mono (by decide)) hx' rfl (pda_cons (dv 0) pda_nil))))) (fun A' xe' hA => have hr := hA _ hr; (pds_one (pds_set (i := 1) sc_law_refused.nd rfl (Or.inl rfl) (pd_and (pd_instB (ans := ansOf E_NoRow.c true) (ans_of iB_NoRow_NoRow nx_NoRow) rfl z_isinstance rfl E_NoRow.xc.bound (dv 2)) (pd_and (pd_instXT (yes := hitOf E_NoRow.c) (hit_of iT_NoRow_ValueError) rfl z_isinstance rfl z_ValueError PyProof.Rows.Boot.«ValueError» (dv 2)) (pd_one (pd_not (pd_callN G_law_other (hr.mono (by decide)) pass_nox rfl (pda_cons (dv 2) pda_nil)))))))))) (pds_one (pds_ret (dv 1))))), fun ds S Q ex h => by
    unfold sp_law_refused at h
    split at h
    · rename_i w
      obtain ⟨hl, hb, h⟩ := h
      refine ⟨hl, fun t b n => absurd n (hb t b), fun _ => ⟨hit_self _, ?_⟩⟩
      refine instB_at (fun K hK => by exact hK) ?_
      refine ifT rfl ?_
      refine ifT (hit_self _) ?_
      exact ⟨rfl, h⟩
    · exact h.elim⟩)
def mk_law_no_number  (d_law_no_number : Df K mg "_law_no_number" s_law_no_number ["_law_way", "_law_cell", "_law_text_here", "_law_top", "_law_bottom"]) (z_str : mg "str" = none) (z_abs : mg "abs" = none) (z_len : mg "len" = none) : Fk P w K mg base 1 "_law_no_number" ["_law_way", "_law_cell", "_law_text_here", "_law_top", "_law_bottom"] sp_law_no_number :=
  d_law_no_number.mk' (fn_gc (fun_ok (k := 0) d_law_no_number.F sc_law_no_number (gcs_len (len_law_no_number)) fun cdv A outer s H E hr => ⟨_, (pds_cons (pds_set (i := 5) sc_law_no_number.nd rfl (Or.inl rfl) (pd_callTy (dc_irr dc_strI) rfl z_str PyProof.Rows.Boot.«str» (pda_cons (pd_op do_add pd_int (pd_op do_modL (dv 1) pd_int)) pda_nil))) (pds_cons (pds_set (i := 6) sc_law_no_number.nd rfl (Or.inl rfl) (pd_lst (pda_cons pd_str (pda_cons pd_str (pda_cons pd_str (pda_cons pd_str (pda_cons pd_str (pda_cons pd_str (pda_cons pd_str (pda_cons pd_str (pda_cons (pd_op do_addS pd_str (dv 5)) (pda_cons (pd_op do_addS (dv 5) pd_str) pda_nil)))))))))))) (pds_cons (pds_if (pdt_cmp (do_eq hr) (pd_op do_modL (dv 0) pd_int) pd_int (nomark _)) (pds_cons (pds_set (i := 7) sc_law_no_number.nd rfl (Or.inl rfl) (pd_op do_mod (pd_op do_fdivL (dv 1) pd_int) (pd_op do_add (pd_callB dc_lenS rfl z_len PyProof.Rows.Boot.«len» (pda_cons (dv 2) pda_nil)) pd_int))) (pds_one (pds_ret (pd_op do_addS (pd_op do_addS (pd_slS (dv 2) pdo_none (pdo_some (dv 7))) (pd_ixS pd_str (pd_op do_modL (dv 1) pd_int) (fun _ _ => rfl))) (pd_slS (dv 2) (pdo_some (dv 7)) pdo_none))))) pds_nil) (pds_cons (pds_if (pdt_cmp (do_eq hr) (pd_op do_modL (dv 0) pd_int) pd_int (nomark _)) (pds_one (pds_ret (pd_ixV (dv 6) (pd_op do_modL (dv 1) pd_int) (fun _ _ => rfl)))) pds_nil) (pds_cons (pds_if (pdt_cmp (do_eq hr) (pd_op do_modL (pd_op do_fdivL (dv 0) pd_int) pd_int) pd_int (nomark _)) (pds_one (pds_ret (pd_op do_addS (pd_ixV (pd_lst (pda_cons pd_str (pda_cons pd_str pda_nil))) (pd_op do_modL (dv 1) pd_int) (fun _ _ => rfl)) (pd_callTy (dc_irr dc_strI) rfl z_str PyProof.Rows.Boot.«str» (pda_cons (pd_callB dc_abs rfl z_abs PyProof.Rows.Boot.«abs» (pda_cons (dv 3) pda_nil)) pda_nil))))) pds_nil) (pds_cons (pds_if (pdt_cmp (do_eq hr) (pd_op do_modL (pd_op do_fdivL (dv 0) pd_int) pd_int) pd_int (nomark _)) (pds_one (pds_ret (pd_op do_addS (pd_op do_addS (pd_callTy (dc_irr dc_strI) rfl z_str PyProof.Rows.Boot.«str» (pda_cons (dv 3) pda_nil)) pd_str) (pd_ixV (pd_lst (pda_cons pd_str (pda_cons pd_str (pda_cons (pd_op do_addS pd_str (dv 5)) (pda_cons (pd_op do_addS pd_str (dv 5)) pda_nil))))) (pd_op do_modL (dv 1) pd_int) (fun _ _ => rfl))))) pds_nil) (pds_cons (pds_if (pdt_cmp (do_eq hr) (pd_op do_modL (pd_op do_fdivL (dv 0) pd_int) pd_int) pd_int (nomark _)) (pds_one (pds_ret (pd_op do_addS (pd_op do_addS (pd_callTy (dc_irr dc_strI) rfl z_str PyProof.Rows.Boot.«str» (pda_cons (pd_op do_mul (dv 3) (pd_op do_add pd_int (pd_op do_modL (dv 1) pd_int))) pda_nil)) pd_str) (pd_callTy (dc_irr dc_strI) rfl z_str PyProof.Rows.Boot.«str» (pda_cons (pd_op do_mul (dv 4) (pd_op do_add pd_int (pd_op do_modL (dv 1) pd_int))) pda_nil))))) pds_nil) (pds_one (pds_ret (pd_op do_addS (pd_ixV (pd_lst (pda_cons pd_str (pda_cons pd_str (pda_cons pd_str pda_nil)))) (pd_op do_modL (dv 1) pd_int) (fun _ _ => rfl)) (pd_callTy (dc_irr dc_strI) rfl z_str PyProof.Rows.Boot.«str» (pda_cons (pd_op do_add (pd_op do_powL pd_int pd_int) (pd_op do_mod (dv 1) (pd_op do_powL pd_int pd_int))) pda_nil)))))))))))), fun ds S Q ex h => by
    obtain ⟨Q0, ex0, rfl, rfl, h⟩ := h
    unfold sp_law_no_number at h
    split at h
    · rename_i way c x t b
      obtain ⟨⟨rfl, ht, b1, hb⟩, h⟩ := h
      have fin : ∀ (z : Str) (l : List Nat) (S' : Sto), z = mk l → Pre S S' → l.length ≤ 100 → Bad l → Gc S Q0 (.str z) S' := fun z l S' ez p hl hB => by
        subst ez
        exact ⟨p, .str _, h (mk l) (by rw [mk_len]; exact hl) (by rw [cs_mk]; exact hB)⟩
      have ls := num_len (i := 1 + c % 999) (k := 3) (by decide) (by omega)
      have l0 := num_len (i := t) (k := 9) (by decide) ht
      have lx := textOf_len (t := t) (b := b) (k := 9) (by decide) ht (by omega)
      have hs : (1 + c % 999).natAbs < 10 ^ 9 := by omega
      refine strI_at (log2_of hs (by decide)) ?_
      rw [str_num]
      have em : (mk (num (1 + c % 999))).length = (num (1 + c % 999)).length := mk_len _
      have ex' : (mk (textOf t b)).length = (textOf t b).length := mk_len _
      refine ⟨by show 1 + (mk (num (1 + c % 999))).length ≤ 1000; omega, by show (mk (num (1 + c % 999))).length + 1 ≤ 1000; omega, ?_⟩
      refine ifD (fun w0 => ?_) (fun w0 => ?_)
      · refine ⟨by omega, ?_⟩
        refine ⟨show (0 : Int) < ((mk (textOf t b)).length : Int) + 1 by omega, ?_⟩
        have eo : OFF1.length = 16 := by decide
        refine ⟨by omega, ⟨off1 c, ⟨by omega, by omega, by show c % 16 < ((OFF1.length : Nat) : Int); omega⟩, off1_get c, ?_⟩⟩
        have q1 := slice_len (mk (textOf t b)) none (some (c / 19 % (((mk (textOf t b)).length : Int) + 1)))
        have q2 := slice_len (mk (textOf t b)) (some (c / 19 % (((mk (textOf t b)).length : Int) + 1))) none
        refine ⟨by rw [one_len]; omega, ⟨by omega, ⟨by rw [len_app, one_len]; omega, ?_⟩⟩⟩
        refine fin _ (cs (StrLaws.sliceText (mk (textOf t b)) none (some (c / 19 % (((mk (textOf t b)).length : Int) + 1))) ++ ⟨#[off1 c]⟩ ++ StrLaws.sliceText (mk (textOf t b)) (some (c / 19 % (((mk (textOf t b)).length : Int) + 1))) none)) _ (mk_cs _).symm Pre.refl.push ?_ ?_
        · rw [← len_list, len_app, len_app, one_len]
          omega
        · exact bad_sign (c := off1 c) (by rw [app_list, app_list]; simp) (off1_off c)
      · refine ifD (fun w1 => ?_) (fun w1 => ?_)
        · obtain ⟨l, hl, ea⟩ := pick (odds (num (1 + c % 999))) 10 rfl (by decide) c
          refine ixL_at (o := .lst _) (at_last _ _) (by show atI (_ :: _) _ = _; rw [odds_eq]; exact ea) ?_
          obtain ⟨z1, z2⟩ := odds_bad (l := l) (i := 1 + c % 999) hl
          exact fin _ l _ rfl Pre.refl.push (by omega) z1
        · refine ifD (fun w2 => ?_) (fun w2 => ?_)
          · obtain ⟨l, hl, ea⟩ := pick [[48], [45, 48]] 2 rfl (by decide) c
            refine ixL_at (o := .lst _) (at_last _ _) (by show atI (_ :: _) _ = _; rw [lit0, litm0]; exact ea) ?_
            have eabs : (if t < 0 then -t else t).natAbs = t.natAbs := by split <;> omega
            have ha : (if t < 0 then -t else t).natAbs < 10 ^ 9 := by rw [eabs]; exact ht
            have la := num_len (i := if t < 0 then -t else t) (k := 9) (by decide) ha
            refine strI_at (log2_of ha (by decide)) ?_
            rw [str_num]
            have z : Bad (l ++ num (if t < 0 then -t else t)) ∧ l.length ≤ 2 := by
              simp only [List.mem_cons, List.not_mem_nil, or_false] at hl
              rcases hl with rfl | rfl
              · exact ⟨bad_plain (by simp; exact no47 _) fun u _ => not_num_nought (num_ne _) u, by simp⟩
              · exact ⟨bad_plain (by simp; exact no47 _) fun u _ => not_num_mnought _ u, by simp⟩
            refine ⟨by rw [mk_len, mk_len]; omega, ?_⟩
            exact fin _ (l ++ num (if t < 0 then -t else t)) _ (mk_app _ _) Pre.refl.push.push (by rw [List.length_append]; omega) z.1
          · refine ifD (fun w3 => ?_) (fun w3 => ?_)
            · refine strI_at (log2_of ht (by decide)) ?_
              rw [str_num]
              refine ⟨by rw [mk_len]; show _ + 1 ≤ 1000; omega, ?_⟩
              refine ⟨by show 1 + (mk (num (1 + c % 999))).length ≤ 1000; omega, by show 1 + (mk (num (1 + c % 999))).length ≤ 1000; omega, ?_⟩
              obtain ⟨l, hl, ea⟩ := pick [[49], [48], 45 :: num (1 + c % 999), 48 :: num (1 + c % 999)] 4 rfl (by decide) c
              have eL : [D.str "1", D.str "0", D.str ("-" ++ mk (num (1 + c % 999))), D.str ("0" ++ mk (num (1 + c % 999)))] = ([[49], [48], 45 :: num (1 + c % 999), 48 :: num (1 + c % 999)] : List (List Nat)).map fun l => D.str (mk l) := by
                rw [lit1, lit0, litm, mk_app, mk_app]
                rfl
              refine ixL_at (o := .lst _) (at_last _ _) (by show atI (_ :: _) _ = _; rw [eL]; exact ea) ?_
              have z : Bad (num t ++ 47 :: l) ∧ l.length ≤ 5 := by
                simp only [List.mem_cons, List.not_mem_nil, or_false] at hl
                rcases hl with rfl | rfl | rfl | rfl
                · refine ⟨bad_bot (no47 t) fun u hu e => ?_, by simp⟩
                  have := num_inj (a := u) (b := 1) (by rw [e]; decide)
                  omega
                · refine ⟨bad_bot (no47 t) fun u hu e => ?_, by simp⟩
                  have := num_inj (a := u) (b := 0) (by rw [e]; decide)
                  omega
                · exact ⟨bad_bot (no47 t) fun u hu => pos_no45 hu _, by simp; omega⟩
                · exact ⟨bad_bot (no47 t) fun u _ => not_num_nought (num_ne _) u, by simp; omega⟩
              have s1 : mk (num t) ++ ("/" : Str) = mk (num t ++ [47]) := by rw [stroke]; exact mk_app (num t) [47]
              refine ⟨by rw [s1, mk_len, mk_len, List.length_append, List.length_singleton]; omega, ?_⟩
              exact fin _ (num t ++ 47 :: l) _ (by show mk (num t) ++ ("/" : Str) ++ mk l = _; rw [s1, mk_app, List.append_assoc]; rfl) Pre.refl.push.push (by rw [List.length_append, List.length_cons]; omega) z.1
            · refine ifD (fun w4 => ?_) (fun w4 => ?_)
              · have hm : (2 + c % 7).natAbs < 10 := by omega
                have bt : (t * (2 + c % 7)).natAbs < 10 ^ 10 := by
                  rw [Int.natAbs_mul]
                  exact Nat.lt_of_le_of_lt (Nat.mul_le_mul (show t.natAbs ≤ 10 ^ 9 - 1 by omega) (show (2 + c % 7).natAbs ≤ 9 by omega)) (by decide)
                have bb : (b * (2 + c % 7)).natAbs < 10 ^ 10 := by
                  rw [Int.natAbs_mul]
                  exact Nat.lt_of_le_of_lt (Nat.mul_le_mul (show b.natAbs ≤ 10 ^ 9 - 1 by omega) (show (2 + c % 7).natAbs ≤ 9 by omega)) (by decide)
                have lt := num_len (k := 10) (by decide) bt
                have lb := num_len (k := 10) (by decide) bb
                have et : (mk (num (t * (2 + c % 7)))).length = (num (t * (2 + c % 7))).length := mk_len _
                have sm : Sz 40 (2 + c % 7) := Sz.of 10 (by omega)
                have st : Sz 40 t := Sz.of (10 ^ 9) (by omega)
                have sb : Sz 40 b := Sz.of (10 ^ 9) (by omega)
                refine ⟨mul_ok st sm, ?_⟩
                refine strI_at (log2_of bt (by decide)) ?_
                rw [str_num]
                refine ⟨by show (mk (num (t * (2 + c % 7)))).length + 1 ≤ 1000; omega, ?_⟩
                refine ⟨mul_ok sb sm, ?_⟩
                refine strI_at (log2_of bb (by decide)) ?_
                rw [str_num]
                have s1 : mk (num (t * (2 + c % 7))) ++ ("/" : Str) = mk (num (t * (2 + c % 7)) ++ [47]) := by rw [stroke]; exact mk_app _ [47]
                refine ⟨by rw [s1, mk_len, mk_len, List.length_append, List.length_singleton]; omega, ?_⟩
                exact fin _ (num (t * (2 + c % 7)) ++ 47 :: num (b * (2 + c % 7))) _ (by show mk (num (t * (2 + c % 7))) ++ ("/" : Str) ++ mk (num (b * (2 + c % 7))) = _; rw [s1, mk_app, List.append_assoc]; rfl) Pre.refl.push (by rw [List.length_append, List.length_cons]; omega) (bad_multiple (by omega) b1)
              · obtain ⟨l, hl, ea⟩ := pick [[], [45], [49, 47]] 3 rfl (by decide) c
                refine ixL_at (o := .lst _) (at_last _ _) (by show atI (_ :: _) _ = _; rw [litn, litm, lit1s]; exact ea) ?_
                refine ⟨show (0 : Int) < 10 ^ Int.toNat 12 by decide, ?_⟩
                have e9 : (10 : Int) ^ Int.toNat 9 + c % 10 ^ Int.toNat 12 = 10 ^ 9 + c % 10 ^ 12 := rfl
                have hn : (10 : Int) ^ 9 ≤ 10 ^ Int.toNat 9 + c % 10 ^ Int.toNat 12 := by rw [e9]; omega
                have hN : ((10 : Int) ^ Int.toNat 9 + c % 10 ^ Int.toNat 12).natAbs < 10 ^ 13 := by rw [e9]; omega
                have ln := num_len (k := 13) (by decide) hN
                obtain ⟨g1, g2, g3⟩ := bad_long hn
                refine strI_at (log2_of hN (by decide)) ?_
                rw [str_num]
                have z : Bad (l ++ num ((10 : Int) ^ Int.toNat 9 + c % 10 ^ Int.toNat 12)) ∧ l.length ≤ 2 := by
                  simp only [List.mem_cons, List.not_mem_nil, or_false] at hl
                  rcases hl with rfl | rfl | rfl
                  · exact ⟨g1, by simp⟩
                  · exact ⟨g2, by simp⟩
                  · exact ⟨g3, by simp⟩
                refine ⟨by rw [mk_len, mk_len]; omega, ?_⟩
                exact fin _ (l ++ num ((10 : Int) ^ Int.toNat 9 + c % 10 ^ Int.toNat 12)) _ (mk_app _ _) Pre.refl.push.push (by rw [List.length_append]; omega) z.1
    · exact h.elim⟩))
def mk_law  (d_law : Df K mg "law" s_law ["_law_script"]) (E_NoRow : Ec K mg "NoRow") (E_NoNumber : Ec K mg "NoNumber") (G_law_refused : Fk P w K mg base 4 "_law_refused" ["_law_word"] sp_law_refused) (G_law_no_number : Fk P w K mg base 1 "_law_no_number" ["_law_way", "_law_cell", "_law_text_here", "_law_top", "_law_bottom"] sp_law_no_number) (G_law_cell_at : Fk P w K mg base 1 "_law_cell_at" ["_law_script", "_law_k"] sp_law_cell_at) (G_law_text : Fk P w K mg base 1 "_law_text" ["_law_top", "_law_bottom"] sp_law_text) (G_written : Fk P w K mg base 2 "written" ["a"] sp_written) (G_law_whole : Fk P w K mg base 1 "_law_whole" ["_law_found"] sp_law_whole) (G_number_of : Fk P w K mg base 3 "number_of" ["word"] (sp_number_of E_NoRow.c E_NoNumber.c)) (G_law_divisor : Fk P w K mg base 1 "_law_divisor" ["_law_a", "_law_b"] sp_law_divisor) (z_isinstance : mg "isinstance" = none) (z_str : mg "str" = none) (z_len : mg "len" = none) (z_tuple : mg "tuple" = none) (z_abs : mg "abs" = none) (kit_str : Kit K "str") (kit_tuple : Kit K "tuple") : Fk P w K mg base 5 "law" ["_law_script"] spLaw :=
  d_law.mk' (fun_ok (k := 4) d_law.F sc_law spLaw_len fun cdv A outer s H E hr => ⟨_, (pds_cons (pds_set (i := 1) sc_law.nd rfl (Or.inl rfl) (pd_op do_sub (pd_op do_mod (pd_callF G_law_cell_at (hr.mono (by decide)) pass_nox rfl (pda_cons (dv 0) (pda_cons pd_int pda_nil))) (pd_op do_sub (pd_op do_mul pd_int (pd_op do_powL pd_int pd_int)) pd_int)) (pd_op do_sub (pd_op do_powL pd_int pd_int) pd_int))) (pds_cons (pds_set (i := 2) sc_law.nd rfl (Or.inl rfl) (pd_op do_add pd_int (pd_op do_mod (pd_callF G_law_cell_at (hr.mono (by decide)) pass_nox rfl (pda_cons (dv 0) (pda_cons pd_int pda_nil))) (pd_op do_sub (pd_op do_powL pd_int pd_int) pd_int)))) (pds_cons (pds_if (pdt_cmp (do_eq hr) (pd_op do_modL (pd_callF G_law_cell_at (hr.mono (by decide)) pass_nox rfl (pda_cons (dv 0) (pda_cons pd_int pda_nil))) pd_int) pd_int (nomark _)) (pds_one (pds_set (i := 2) sc_law.nd rfl (Or.inl rfl) pd_int)) pds_nil) (pds_cons (pds_if (pdt_cmp (do_eq hr) (pd_op do_modL (pd_callF G_law_cell_at (hr.mono (by decide)) pass_nox rfl (pda_cons (dv 0) (pda_cons pd_int pda_nil))) pd_int) pd_int (nomark _)) (pds_cons (pds_set (i := 1) sc_law.nd rfl (Or.inl rfl) (pd_op do_sub (pd_op do_modL (dv 1) pd_int) pd_int)) (pds_one (pds_set (i := 2) sc_law.nd rfl (Or.inl rfl) (pd_op do_add pd_int (pd_op do_modL (dv 2) pd_int))))) pds_nil) (pds_cons (pds_set (i := 3) sc_law.nd rfl (Or.inl rfl) (pd_callF G_law_divisor (hr.mono (by decide)) pass_nox rfl (pda_cons (pd_callB dc_abs rfl z_abs PyProof.Rows.Boot.«abs» (pda_cons (dv 1) pda_nil)) (pda_cons (dv 2) pda_nil)))) (pds_cons (pds_set (i := 1) sc_law.nd rfl (Or.inl rfl) (pd_op do_fdiv (dv 1) (dv 3))) (pds_cons (pds_set (i := 2) sc_law.nd rfl (Or.inl rfl) (pd_op do_fdiv (dv 2) (dv 3))) (pds_cons (pds_set (i := 4) sc_law.nd rfl (Or.inl rfl) (pd_callF G_law_text (hr.mono (by decide)) pass_nox rfl (pda_cons (dv 1) (pda_cons (dv 2) pda_nil)))) (pds_cons (pds_set (i := 5) sc_law.nd rfl (Or.inl rfl) (pd_callF G_number_of (hr.mono (by decide)) pass_nox rfl (pda_cons (dv 4) pda_nil))) (pds_cons (pds_if (PDW.pt (pdw_or (pdt_not (pdt_val (pd_inst kit_tuple rfl z_isinstance rfl z_tuple PyProof.Rows.Boot.«tuple» (dv 5)))) (pdw_or (pdt_cmp (do_ne hr) (pd_callB dc_len rfl z_len PyProof.Rows.Boot.«len» (pda_cons (dv 5) pda_nil)) pd_int (nomark _)) (pdw_or (pdt_not (pdt_val (pd_callF G_law_whole (hr.mono (by decide)) pass_nox rfl (pda_cons (pd_ix (dv 5) pd_int (fun _ _ => rfl)) pda_nil)))) (pdw_or1 (pdt_not (pdt_val (pd_callF G_law_whole (hr.mono (by decide)) pass_nox rfl (pda_cons (pd_ix (dv 5) pd_int (fun _ _ => rfl)) pda_nil))))))))) (pds_one (pds_ret pd_bl)) pds_nil) (pds_cons (pds_if (PDW.pt (pdw_or (pdt_cmp (do_ne hr) (dv 5) (pd_tup (pda_cons (dv 1) (pda_cons (dv 2) pda_nil))) (nomark _)) (pdw_or1 (pdt_cmp (do_ne hr) (pd_callF G_written (hr.mono (by decide)) pass_nox rfl (pda_cons (pd_tup (pda_cons (dv 1) (pda_cons (dv 2) pda_nil))) pda_nil)) (dv 4) (nomark _))))) (pds_one (pds_ret pd_bl)) pds_nil) (pds_cons (pds_set (i := 6) sc_law.nd rfl (Or.inl rfl) (pd_op do_add pd_int (pd_op do_mod (pd_callF G_law_cell_at (hr.mono (by decide)) pass_nox rfl (pda_cons (dv 0) (pda_cons pd_int pda_nil))) (pd_op do_powL pd_int pd_int)))) (pds_cons (pds_set (i := 7) sc_law.nd rfl (Or.inl rfl) (pd_op do_add (pd_op do_mul (pd_op do_sub (pd_op do_mod (pd_callF G_law_cell_at (hr.mono (by decide)) pass_nox rfl (pda_cons (dv 0) (pda_cons pd_int pda_nil))) (pd_op do_mul (pd_op do_mul pd_int (pd_op do_powL pd_int pd_int)) (pd_op do_powL pd_int pd_int))) (pd_op do_mul (pd_op do_powL pd_int pd_int) (pd_op do_powL pd_int pd_int))) (dv 6)) pd_int)) (pds_cons (pds_set (i := 8) sc_law.nd rfl (Or.inl rfl) (pd_callF G_written (hr.mono (by decide)) pass_nox rfl (pda_cons (pd_tup (pda_cons (dv 7) (pda_cons (dv 6) pda_nil))) pda_nil))) (pds_cons (pds_if (PDW.pt (pdw_or (pdt_not (pdt_val (pd_inst kit_str rfl z_isinstance rfl z_str PyProof.Rows.Boot.«str» (dv 8)))) (pdw_or1 (pdt_cmp (do_ne hr) (dv 8) (pd_callF G_law_text (hr.mono (by decide)) pass_nox rfl (pda_cons (dv 7) (pda_cons (dv 6) pda_nil))) (nomark _))))) (pds_one (pds_ret pd_bl)) pds_nil) (pds_one (pds_ret (pd_callF G_law_refused (hr.mono (by decide)) pass_nox rfl (pda_cons (pd_callF G_law_no_number (hr.mono (by decide)) pass_nox rfl (pda_cons (pd_op do_modL (pd_callF G_law_cell_at (hr.mono (by decide)) pass_nox rfl (pda_cons (dv 0) (pda_cons pd_int pda_nil))) pd_int) (pda_cons (pd_callF G_law_cell_at (hr.mono (by decide)) pass_nox rfl (pda_cons (dv 0) (pda_cons pd_int pda_nil))) (pda_cons (dv 4) (pda_cons (dv 1) (pda_cons (dv 2) pda_nil)))))) pda_nil))))))))))))))))))), fun ds S Q ex h => by
    obtain ⟨ns, rfl, rfl, hl, h⟩ := h
    refine cut4 (α := Int × Int) (fun a => match a with | ⟨t0, b0⟩ => [some (.ref 0), some (.int t0), some (.int b0), none, none, none, none, none, none]) (fun a => match a with | ⟨t0, b0⟩ => t0.natAbs < 10 ^ 9 ∧ 1 ≤ b0 ∧ b0 < 10 ^ 9) (fun main => ?_) ?_
    · refine ⟨ns, rfl, by decide, ⟨mul_ok (m := 2) (n := 40) (by unfold Sz; decide) (by unfold Sz; decide), ⟨show (0 : Int) < 2 * 10 ^ Int.toNat 9 - 1 by decide, ?_⟩⟩⟩
      refine ⟨ns, rfl, by decide, ⟨show (0 : Int) < 10 ^ Int.toNat 9 - 1 by decide, ?_⟩⟩
      refine ⟨ns, rfl, by decide, ifD (fun c1 => ?_) (fun c1 => ?_)⟩
      · refine ⟨ns, rfl, by decide, ifD (fun c2 => absurd c2 (by omega)) (fun c2 => ?_)⟩
        exact main (ns.getD (0 : Int).toNat 0 % (2 * 10 ^ Int.toNat 9 - 1) - (10 ^ Int.toNat 9 - 1), 1) ⟨top_ok (N := 10 ^ Int.toNat 9) rfl (mod_range (by decide)), by decide, by decide⟩
      · refine ⟨ns, rfl, by decide, ifD (fun c2 => ?_) (fun c2 => ?_)⟩
        · refine seq_set2 (v1 := .int ((ns.getD (0 : Int).toNat 0 % (2 * 10 ^ Int.toNat 9 - 1) - (10 ^ Int.toNat 9 - 1)) % 401 - 200)) (v2 := .int (1 + (1 + ns.getD (1 : Int).toNat 0 % (10 ^ Int.toNat 9 - 1)) % 60)) (fun K hK => by exact hK) (fun K hK => by exact hK) ?_
          exact main ((ns.getD (0 : Int).toNat 0 % (2 * 10 ^ Int.toNat 9 - 1) - (10 ^ Int.toNat 9 - 1)) % 401 - 200, 1 + (1 + ns.getD (1 : Int).toNat 0 % (10 ^ Int.toNat 9 - 1)) % 60) ⟨top_ok2 _, bot_ok2 _⟩
        · exact main (ns.getD (0 : Int).toNat 0 % (2 * 10 ^ Int.toNat 9 - 1) - (10 ^ Int.toNat 9 - 1), 1 + ns.getD (1 : Int).toNat 0 % (10 ^ Int.toNat 9 - 1)) ⟨top_ok (N := 10 ^ Int.toNat 9) rfl (mod_range (by decide)), bot_ok (N := 10 ^ Int.toNat 9) rfl (mod_range (by decide))⟩
    · rintro ⟨t0, b0⟩ ⟨ht0, hb1, hb0⟩
      obtain ⟨g, eg, g1, sg, lt, lb1, lb, low⟩ := low_div t0 hb1 ht0 hb0
      refine ⟨⟨absI_nn t0, by show 0 ≤ b0; omega⟩, ?_⟩
      rw [show ((Int.gcd (if t0 < 0 then -t0 else t0) b0 : Nat) : Int) = g from eg]
      refine ⟨sg.fd (by omega), ⟨sg.fd (by omega), ?_⟩⟩
      have big : (10 : Nat) ^ 9 ≤ 10 ^ 200 := Nat.pow_le_pow_right (by decide) (by decide)
      generalize et : t0 / g = t at lt low
      generalize eb : b0 / g = b at lb1 lb low
      have own : IsNum (textOf t b) t b := ⟨lb1, low, lt, lb, rfl⟩
      have lx := textOf_len (t := t) (b := b) (k := 9) (by decide) lt (by omega)
      refine ⟨⟨by show (t0 / g).natAbs < _; rw [et]; omega, by show 1 ≤ b0 / g; rw [eb]; exact lb1, by show (b0 / g).natAbs < _; rw [eb]; omega⟩, ?_⟩
      refine ⟨by show (mk (textOf (t0 / g) (b0 / g))).length ≤ 900; rw [et, eb, mk_len]; omega, fun t' b' n => ?_, fun hB => (hB t b) (by rw [cs_mk, et, eb]; exact own)⟩
      rw [cs_mk, et, eb] at n
      obtain ⟨et', eb'⟩ := n.one own
      subst et' eb'
      refine ifF (by rw [et, eb]; simp) ?_
      refine ⟨⟨by show (t0 / g).natAbs < _; rw [et]; omega, by show 1 ≤ b0 / g; rw [eb]; exact lb1, by show (b0 / g).natAbs < _; rw [eb]; omega⟩, ?_⟩
      refine ifN (fun z => absurd rfl z) (fun _ => ?_)
      refine ⟨ns, rfl, by decide, ⟨show (0 : Int) < 10 ^ Int.toNat 60 by decide, ?_⟩⟩
      refine ⟨ns, rfl, by decide, ⟨mul_ok (m := 2) (n := 210) (by unfold Sz; decide) (by unfold Sz; decide), mul_ok (m := 220) (n := 210) (by unfold Sz; decide) (by unfold Sz; decide), ⟨show (0 : Int) < 2 * 10 ^ Int.toNat 60 * 10 ^ Int.toNat 60 by decide, mul_ok (m := 210) (n := 210) (by unfold Sz; decide) (by unfold Sz; decide), ?_⟩⟩⟩
      have far := far_ok (mod_range (a := ns.getD (3 : Int).toNat 0) (b := 10 ^ 60) (by decide))
      have gre := gre_ok (mod_range (a := ns.getD (4 : Int).toNat 0) (b := 2 * 10 ^ 60 * 10 ^ 60) (by decide))
      refine ⟨mul_ok (m := 410) (n := 210) gre.1 far.1, ?_⟩
      have gb := great_ok gre.2 far.2.2
      refine ⟨⟨gb, far.2.1, Nat.lt_of_lt_of_le far.2.2 (Nat.pow_le_pow_right (by decide) (by decide))⟩, ?_⟩
      refine ⟨⟨gb, far.2.1, Nat.lt_of_lt_of_le far.2.2 (Nat.pow_le_pow_right (by decide) (by decide))⟩, ?_⟩
      refine ifN (fun z => absurd rfl z) (fun _ => ?_)
      refine ⟨ns, rfl, by decide, ⟨ns, rfl, by decide, ?_⟩⟩
      refine ⟨⟨rfl, by show (t0 / g).natAbs < _; rw [et]; exact lt, by show 1 ≤ b0 / g; rw [eb]; exact lb1, by show b0 / g < _; rw [eb]; exact lb⟩, fun w lw hB => ?_⟩
      exact ⟨by omega, hB, h _⟩⟩)
end
theorem all_mk {l : PySem.W.OpenLaw} {w : World} {K : PySem.W.Frag} {h : Heap} {mg : Str → Option Value} {fa : Addr} (X : K.In h) (G : h.Ns mainGlobals mg) (hfa : mg "law" = some (.ref fa))
    {f0 : Addr} {od0 an0 : Option Addr} {sl0 : Array (Option Value)} {oc0 kV0 dc0 pm0 cd0 ct0 : Value}
    (a0 : PySem.W.nsIn K mainGlobals "is_whole" = some (some (.ref f0))) (l0 : K.lookup f0 = some ⟨oc0, od0, .func (PySem.W.fnOf "is_whole" "is_whole" (defArgs s_is_whole) (defBody s_is_whole) (defScope s_is_whole) .none kV0 dc0 pm0 an0 cd0 ct0), sl0⟩) (c0 : PySem.W.codeIn K cd0 "is_whole" = true) (k0 : PySem.W.keepIn K (.ref f0) = true)
    {f1 : Addr} {od1 an1 : Option Addr} {sl1 : Array (Option Value)} {oc1 kV1 dc1 pm1 cd1 ct1 : Value}
    (a1 : PySem.W.nsIn K mainGlobals "greatest_divisor" = some (some (.ref f1))) (l1 : K.lookup f1 = some ⟨oc1, od1, .func (PySem.W.fnOf "greatest_divisor" "greatest_divisor" (defArgs s_greatest_divisor) (defBody s_greatest_divisor) (defScope s_greatest_divisor) .none kV1 dc1 pm1 an1 cd1 ct1), sl1⟩) (c1 : PySem.W.codeIn K cd1 "greatest_divisor" = true) (k1 : PySem.W.keepIn K (.ref f1) = true)
    {f2 : Addr} {od2 an2 : Option Addr} {sl2 : Array (Option Value)} {oc2 kV2 dc2 pm2 cd2 ct2 : Value}
    (a2 : PySem.W.nsIn K mainGlobals "fraction" = some (some (.ref f2))) (l2 : K.lookup f2 = some ⟨oc2, od2, .func (PySem.W.fnOf "fraction" "fraction" (defArgs s_fraction) (defBody s_fraction) (defScope s_fraction) .none kV2 dc2 pm2 an2 cd2 ct2), sl2⟩) (c2 : PySem.W.codeIn K cd2 "fraction" = true) (k2 : PySem.W.keepIn K (.ref f2) = true)
    {f3 : Addr} {od3 an3 : Option Addr} {sl3 : Array (Option Value)} {oc3 kV3 dc3 pm3 cd3 ct3 : Value}
    (a3 : PySem.W.nsIn K mainGlobals "made_of" = some (some (.ref f3))) (l3 : K.lookup f3 = some ⟨oc3, od3, .func (PySem.W.fnOf "made_of" "made_of" (defArgs s_made_of) (defBody s_made_of) (defScope s_made_of) .none kV3 dc3 pm3 an3 cd3 ct3), sl3⟩) (c3 : PySem.W.codeIn K cd3 "made_of" = true) (k3 : PySem.W.keepIn K (.ref f3) = true)
    {f4 : Addr} {od4 an4 : Option Addr} {sl4 : Array (Option Value)} {oc4 kV4 dc4 pm4 cd4 ct4 : Value}
    (a4 : PySem.W.nsIn K mainGlobals "figures_of" = some (some (.ref f4))) (l4 : K.lookup f4 = some ⟨oc4, od4, .func (PySem.W.fnOf "figures_of" "figures_of" (defArgs s_figures_of) (defBody s_figures_of) (defScope s_figures_of) .none kV4 dc4 pm4 an4 cd4 ct4), sl4⟩) (c4 : PySem.W.codeIn K cd4 "figures_of" = true) (k4 : PySem.W.keepIn K (.ref f4) = true)
    {f5 : Addr} {od5 an5 : Option Addr} {sl5 : Array (Option Value)} {oc5 kV5 dc5 pm5 cd5 ct5 : Value}
    (a5 : PySem.W.nsIn K mainGlobals "written" = some (some (.ref f5))) (l5 : K.lookup f5 = some ⟨oc5, od5, .func (PySem.W.fnOf "written" "written" (defArgs s_written) (defBody s_written) (defScope s_written) .none kV5 dc5 pm5 an5 cd5 ct5), sl5⟩) (c5 : PySem.W.codeIn K cd5 "written" = true) (k5 : PySem.W.keepIn K (.ref f5) = true)
    {f6 : Addr} {od6 an6 : Option Addr} {sl6 : Array (Option Value)} {oc6 kV6 dc6 pm6 cd6 ct6 : Value}
    (a6 : PySem.W.nsIn K mainGlobals "number_of" = some (some (.ref f6))) (l6 : K.lookup f6 = some ⟨oc6, od6, .func (PySem.W.fnOf "number_of" "number_of" (defArgs s_number_of) (defBody s_number_of) (defScope s_number_of) .none kV6 dc6 pm6 an6 cd6 ct6), sl6⟩) (c6 : PySem.W.codeIn K cd6 "number_of" = true) (k6 : PySem.W.keepIn K (.ref f6) = true)
    {f7 : Addr} {od7 an7 : Option Addr} {sl7 : Array (Option Value)} {oc7 kV7 dc7 pm7 cd7 ct7 : Value}
    (a7 : PySem.W.nsIn K mainGlobals "_law_cell_at" = some (some (.ref f7))) (l7 : K.lookup f7 = some ⟨oc7, od7, .func (PySem.W.fnOf "_law_cell_at" "_law_cell_at" (defArgs s_law_cell_at) (defBody s_law_cell_at) (defScope s_law_cell_at) .none kV7 dc7 pm7 an7 cd7 ct7), sl7⟩) (c7 : PySem.W.codeIn K cd7 "_law_cell_at" = true) (k7 : PySem.W.keepIn K (.ref f7) = true)
    {f8 : Addr} {od8 an8 : Option Addr} {sl8 : Array (Option Value)} {oc8 kV8 dc8 pm8 cd8 ct8 : Value}
    (a8 : PySem.W.nsIn K mainGlobals "_law_whole" = some (some (.ref f8))) (l8 : K.lookup f8 = some ⟨oc8, od8, .func (PySem.W.fnOf "_law_whole" "_law_whole" (defArgs s_law_whole) (defBody s_law_whole) (defScope s_law_whole) .none kV8 dc8 pm8 an8 cd8 ct8), sl8⟩) (c8 : PySem.W.codeIn K cd8 "_law_whole" = true) (k8 : PySem.W.keepIn K (.ref f8) = true)
    {f9 : Addr} {od9 an9 : Option Addr} {sl9 : Array (Option Value)} {oc9 kV9 dc9 pm9 cd9 ct9 : Value}
    (a9 : PySem.W.nsIn K mainGlobals "_law_divisor" = some (some (.ref f9))) (l9 : K.lookup f9 = some ⟨oc9, od9, .func (PySem.W.fnOf "_law_divisor" "_law_divisor" (defArgs s_law_divisor) (defBody s_law_divisor) (defScope s_law_divisor) .none kV9 dc9 pm9 an9 cd9 ct9), sl9⟩) (c9 : PySem.W.codeIn K cd9 "_law_divisor" = true) (k9 : PySem.W.keepIn K (.ref f9) = true)
    {f10 : Addr} {od10 an10 : Option Addr} {sl10 : Array (Option Value)} {oc10 kV10 dc10 pm10 cd10 ct10 : Value}
    (a10 : PySem.W.nsIn K mainGlobals "_law_text" = some (some (.ref f10))) (l10 : K.lookup f10 = some ⟨oc10, od10, .func (PySem.W.fnOf "_law_text" "_law_text" (defArgs s_law_text) (defBody s_law_text) (defScope s_law_text) .none kV10 dc10 pm10 an10 cd10 ct10), sl10⟩) (c10 : PySem.W.codeIn K cd10 "_law_text" = true) (k10 : PySem.W.keepIn K (.ref f10) = true)
    {f11 : Addr} {od11 an11 : Option Addr} {sl11 : Array (Option Value)} {oc11 kV11 dc11 pm11 cd11 ct11 : Value}
    (a11 : PySem.W.nsIn K mainGlobals "_law_other" = some (some (.ref f11))) (l11 : K.lookup f11 = some ⟨oc11, od11, .func (PySem.W.fnOf "_law_other" "_law_other" (defArgs s_law_other) (defBody s_law_other) (defScope s_law_other) .none kV11 dc11 pm11 an11 cd11 ct11), sl11⟩) (c11 : PySem.W.codeIn K cd11 "_law_other" = true) (k11 : PySem.W.keepIn K (.ref f11) = true)
    {f12 : Addr} {od12 an12 : Option Addr} {sl12 : Array (Option Value)} {oc12 kV12 dc12 pm12 cd12 ct12 : Value}
    (a12 : PySem.W.nsIn K mainGlobals "_law_refused" = some (some (.ref f12))) (l12 : K.lookup f12 = some ⟨oc12, od12, .func (PySem.W.fnOf "_law_refused" "_law_refused" (defArgs s_law_refused) (defBody s_law_refused) (defScope s_law_refused) .none kV12 dc12 pm12 an12 cd12 ct12), sl12⟩) (c12 : PySem.W.codeIn K cd12 "_law_refused" = true) (k12 : PySem.W.keepIn K (.ref f12) = true)
    {f13 : Addr} {od13 an13 : Option Addr} {sl13 : Array (Option Value)} {oc13 kV13 dc13 pm13 cd13 ct13 : Value}
    (a13 : PySem.W.nsIn K mainGlobals "_law_no_number" = some (some (.ref f13))) (l13 : K.lookup f13 = some ⟨oc13, od13, .func (PySem.W.fnOf "_law_no_number" "_law_no_number" (defArgs s_law_no_number) (defBody s_law_no_number) (defScope s_law_no_number) .none kV13 dc13 pm13 an13 cd13 ct13), sl13⟩) (c13 : PySem.W.codeIn K cd13 "_law_no_number" = true) (k13 : PySem.W.keepIn K (.ref f13) = true)
    {f14 : Addr} {od14 an14 : Option Addr} {sl14 : Array (Option Value)} {oc14 kV14 dc14 pm14 cd14 ct14 : Value}
    (a14 : PySem.W.nsIn K mainGlobals "law" = some (some (.ref f14))) (l14 : K.lookup f14 = some ⟨oc14, od14, .func (PySem.W.fnOf "law" "law" (defArgs s_law) (defBody s_law) (defScope s_law) .none kV14 dc14 pm14 an14 cd14 ct14), sl14⟩) (c14 : PySem.W.codeIn K cd14 "law" = true) (k14 : PySem.W.keepIn K (.ref f14) = true)
    {t_MOST_FIGURES : Tok} (g_MOST_FIGURES : PySem.W.nsIn K mainGlobals "MOST_FIGURES" = some (some (.int 9 t_MOST_FIGURES)))
    {t_FIGURES : Tok} (g_FIGURES : PySem.W.nsIn K mainGlobals "FIGURES" = some (some (.str "0123456789" t_FIGURES)))
    (z_isinstance : PySem.W.nsIn K mainGlobals "isinstance" = some none)
    (z_bool : PySem.W.nsIn K mainGlobals "bool" = some none)
    (z_int : PySem.W.nsIn K mainGlobals "int" = some none)
    (z_abs : PySem.W.nsIn K mainGlobals "abs" = some none)
    (z_all : PySem.W.nsIn K mainGlobals "all" = some none)
    (z_len : PySem.W.nsIn K mainGlobals "len" = some none)
    (z_reversed : PySem.W.nsIn K mainGlobals "reversed" = some none)
    (z_str : PySem.W.nsIn K mainGlobals "str" = some none)
    (z_ValueError : PySem.W.nsIn K mainGlobals "ValueError" = some none)
    (z_tuple : PySem.W.nsIn K mainGlobals "tuple" = some none)
    (kit_bool : Kit K "bool")
    (kit_int : Kit K "int")
    (kit_str : Kit K "str")
    (kit_tuple : Kit K "tuple")
    {e_NoNumber : Addr} (n_NoNumber : PySem.W.nsIn K mainGlobals "NoNumber" = some (some (.ref e_NoNumber))) (x_NoNumber : PySem.W.excIn K e_NoNumber VE "ValueError.__new__" = true)
    {e_NoRow : Addr} (n_NoRow : PySem.W.nsIn K mainGlobals "NoRow" = some (some (.ref e_NoRow))) (x_NoRow : PySem.W.excIn K e_NoRow VE "ValueError.__new__" = true)
    {e_NoBook : Addr} (n_NoBook : PySem.W.nsIn K mainGlobals "NoBook" = some (some (.ref e_NoBook))) (x_NoBook : PySem.W.excIn K e_NoBook VE "ValueError.__new__" = true)
    {e_NoTask : Addr} (n_NoTask : PySem.W.nsIn K mainGlobals "NoTask" = some (some (.ref e_NoTask))) (x_NoTask : PySem.W.excIn K e_NoTask VE "ValueError.__new__" = true)
    {e_TooMuch : Addr} (n_TooMuch : PySem.W.nsIn K mainGlobals "TooMuch" = some (some (.ref e_TooMuch))) (x_TooMuch : PySem.W.excIn K e_TooMuch VE "ValueError.__new__" = true)
    {e_NoName : Addr} (n_NoName : PySem.W.nsIn K mainGlobals "NoName" = some (some (.ref e_NoName)))
    {e_NoCut : Addr} (n_NoCut : PySem.W.nsIn K mainGlobals "NoCut" = some (some (.ref e_NoCut))) (x_NoCut : PySem.W.excIn K e_NoCut VE "ValueError.__new__" = true)
    {e_NoSpan : Addr} (n_NoSpan : PySem.W.nsIn K mainGlobals "NoSpan" = some (some (.ref e_NoSpan))) (x_NoSpan : PySem.W.excIn K e_NoSpan VE "ValueError.__new__" = true)
    {e_BoxError : Addr} (n_BoxError : PySem.W.nsIn K mainGlobals "BoxError" = some (some (.ref e_BoxError))) (x_BoxError : PySem.W.excIn K e_BoxError VE "ValueError.__new__" = true)
    (s_NoRow_BoxError : PySem.W.exmOne K (.ref e_NoRow) (.ref e_BoxError) = some true)
    (iT_NoRow_ValueError : PySem.W.kitOne K (.ref e_NoRow) (.type "ValueError") = some true)
    (iB_NoRow_NoBook : PySem.W.kitOne K (.ref e_NoRow) (.ref e_NoBook) = some false)
    (iB_NoRow_NoTask : PySem.W.kitOne K (.ref e_NoRow) (.ref e_NoTask) = some false)
    (iB_NoRow_TooMuch : PySem.W.kitOne K (.ref e_NoRow) (.ref e_TooMuch) = some false)
    (iB_NoRow_NoName : PySem.W.kitOne K (.ref e_NoRow) (.ref e_NoName) = some false)
    (iB_NoRow_NoCut : PySem.W.kitOne K (.ref e_NoRow) (.ref e_NoCut) = some false)
    (iB_NoRow_NoSpan : PySem.W.kitOne K (.ref e_NoRow) (.ref e_NoSpan) = some false)
    (iB_NoRow_NoNumber : PySem.W.kitOne K (.ref e_NoRow) (.ref e_NoNumber) = some false)
    (iB_NoRow_NoRow : PySem.W.kitOne K (.ref e_NoRow) (.ref e_NoRow) = some true)
    (nxga_NoRow : PySem.W.findIn K (.ref e_NoRow) "__getattribute__" = some (some (.builtin "BaseException.__getattribute__"))) (nxhk_NoRow : PySem.W.findIn K (.ref e_NoRow) "__getattr__" = some none) (nxha_NoRow : PySem.W.findIn K (.ref e_NoRow) "__class__" = some (some (.builtin "object.__class__"))) (nxhm_NoRow : PySem.W.mroIn K e_NoRow (.type "object") = some true) (nxhb_NoRow : PySem.W.mroIn K e_NoRow (.type "BaseException") = some true)
    (nxhn : PySem.W.specialIn K (.builtin "object.__class__") "__get__" = some (some (.builtin "getset_descriptor.__get__"))) (nxht : PySem.W.takesIn K (.builtin "object.__class__") = some true)
    : ∃ fd : FuncData, (∀ (s : Shared) (v : Value), BindsTo s fd ⟨[v], []⟩ [("_law_script", v)]) ∧ ∀ base : Heap, K.In base → base.Ns mainGlobals mg → FnOk l.prog w K mg base (CXE l.prog w) 5 fa fd ["_law_script"] (upF K spLaw) := by
  have e := hfa.symm.trans (PySem.W.mg_of X G a14)
  cases e
  let d_is_whole : Df K mg "is_whole" s_is_whole ["value"] := ⟨_, _, fun_mk (st := s_is_whole) l0 c0 k0, PySem.W.mg_of X G a0, (fun_mk (st := s_is_whole) l0 c0 k0).binds fun _ _ _ _ _ _ us hl => match us, hl with | [_], _ => rfl⟩
  let d_greatest_divisor : Df K mg "greatest_divisor" s_greatest_divisor ["one", "other"] := ⟨_, _, fun_mk (st := s_greatest_divisor) l1 c1 k1, PySem.W.mg_of X G a1, (fun_mk (st := s_greatest_divisor) l1 c1 k1).binds fun _ _ _ _ _ _ us hl => match us, hl with | [_, _], _ => rfl⟩
  let d_fraction : Df K mg "fraction" s_fraction ["top", "bottom"] := ⟨_, _, fun_mk (st := s_fraction) l2 c2 k2, PySem.W.mg_of X G a2, (fun_mk (st := s_fraction) l2 c2 k2).binds fun _ _ _ _ _ _ us hl => match us, hl with | [_, _], _ => rfl⟩
  let d_made_of : Df K mg "made_of" s_made_of ["word", "signs", "most"] := ⟨_, _, fun_mk (st := s_made_of) l3 c3 k3, PySem.W.mg_of X G a3, (fun_mk (st := s_made_of) l3 c3 k3).binds fun _ _ _ _ _ _ us hl => match us, hl with | [_, _, _], _ => rfl⟩
  let d_figures_of : Df K mg "figures_of" s_figures_of ["number"] := ⟨_, _, fun_mk (st := s_figures_of) l4 c4 k4, PySem.W.mg_of X G a4, (fun_mk (st := s_figures_of) l4 c4 k4).binds fun _ _ _ _ _ _ us hl => match us, hl with | [_], _ => rfl⟩
  let d_written : Df K mg "written" s_written ["a"] := ⟨_, _, fun_mk (st := s_written) l5 c5 k5, PySem.W.mg_of X G a5, (fun_mk (st := s_written) l5 c5 k5).binds fun _ _ _ _ _ _ us hl => match us, hl with | [_], _ => rfl⟩
  let d_number_of : Df K mg "number_of" s_number_of ["word"] := ⟨_, _, fun_mk (st := s_number_of) l6 c6 k6, PySem.W.mg_of X G a6, (fun_mk (st := s_number_of) l6 c6 k6).binds fun _ _ _ _ _ _ us hl => match us, hl with | [_], _ => rfl⟩
  let d_law_cell_at : Df K mg "_law_cell_at" s_law_cell_at ["_law_script", "_law_k"] := ⟨_, _, fun_mk (st := s_law_cell_at) l7 c7 k7, PySem.W.mg_of X G a7, (fun_mk (st := s_law_cell_at) l7 c7 k7).binds fun _ _ _ _ _ _ us hl => match us, hl with | [_, _], _ => rfl⟩
  let d_law_whole : Df K mg "_law_whole" s_law_whole ["_law_found"] := ⟨_, _, fun_mk (st := s_law_whole) l8 c8 k8, PySem.W.mg_of X G a8, (fun_mk (st := s_law_whole) l8 c8 k8).binds fun _ _ _ _ _ _ us hl => match us, hl with | [_], _ => rfl⟩
  let d_law_divisor : Df K mg "_law_divisor" s_law_divisor ["_law_a", "_law_b"] := ⟨_, _, fun_mk (st := s_law_divisor) l9 c9 k9, PySem.W.mg_of X G a9, (fun_mk (st := s_law_divisor) l9 c9 k9).binds fun _ _ _ _ _ _ us hl => match us, hl with | [_, _], _ => rfl⟩
  let d_law_text : Df K mg "_law_text" s_law_text ["_law_top", "_law_bottom"] := ⟨_, _, fun_mk (st := s_law_text) l10 c10 k10, PySem.W.mg_of X G a10, (fun_mk (st := s_law_text) l10 c10 k10).binds fun _ _ _ _ _ _ us hl => match us, hl with | [_, _], _ => rfl⟩
  let d_law_other : Df K mg "_law_other" s_law_other ["_law_e"] := ⟨_, _, fun_mk (st := s_law_other) l11 c11 k11, PySem.W.mg_of X G a11, (fun_mk (st := s_law_other) l11 c11 k11).binds fun _ _ _ _ _ _ us hl => match us, hl with | [_], _ => rfl⟩
  let d_law_refused : Df K mg "_law_refused" s_law_refused ["_law_word"] := ⟨_, _, fun_mk (st := s_law_refused) l12 c12 k12, PySem.W.mg_of X G a12, (fun_mk (st := s_law_refused) l12 c12 k12).binds fun _ _ _ _ _ _ us hl => match us, hl with | [_], _ => rfl⟩
  let d_law_no_number : Df K mg "_law_no_number" s_law_no_number ["_law_way", "_law_cell", "_law_text_here", "_law_top", "_law_bottom"] := ⟨_, _, fun_mk (st := s_law_no_number) l13 c13 k13, PySem.W.mg_of X G a13, (fun_mk (st := s_law_no_number) l13 c13 k13).binds fun _ _ _ _ _ _ us hl => match us, hl with | [_, _, _, _, _], _ => rfl⟩
  let d_law : Df K mg "law" s_law ["_law_script"] := ⟨_, _, fun_mk (st := s_law) l14 c14 k14, PySem.W.mg_of X G a14, (fun_mk (st := s_law) l14 c14 k14).binds fun _ _ _ _ _ _ us hl => match us, hl with | [_], _ => rfl⟩
  have z_isinstance := PySem.W.mg_none_of X G z_isinstance
  have z_bool := PySem.W.mg_none_of X G z_bool
  have z_int := PySem.W.mg_none_of X G z_int
  have z_abs := PySem.W.mg_none_of X G z_abs
  have z_all := PySem.W.mg_none_of X G z_all
  have z_len := PySem.W.mg_none_of X G z_len
  have z_reversed := PySem.W.mg_none_of X G z_reversed
  have z_str := PySem.W.mg_none_of X G z_str
  have z_ValueError := PySem.W.mg_none_of X G z_ValueError
  have z_tuple := PySem.W.mg_none_of X G z_tuple
  have g_MOST_FIGURES := PySem.W.mg_of X G g_MOST_FIGURES
  have g_FIGURES := PySem.W.mg_of X G g_FIGURES
  let E_NoNumber : Ec K mg "NoNumber" := ⟨e_NoNumber, PySem.W.mg_of X G n_NoNumber, x_NoNumber⟩
  let E_NoRow : Ec K mg "NoRow" := ⟨e_NoRow, PySem.W.mg_of X G n_NoRow, x_NoRow⟩
  let E_NoBook : Ec K mg "NoBook" := ⟨e_NoBook, PySem.W.mg_of X G n_NoBook, x_NoBook⟩
  let E_NoTask : Ec K mg "NoTask" := ⟨e_NoTask, PySem.W.mg_of X G n_NoTask, x_NoTask⟩
  let E_TooMuch : Ec K mg "TooMuch" := ⟨e_TooMuch, PySem.W.mg_of X G n_TooMuch, x_TooMuch⟩
  let E_NoName : Eb K mg "NoName" := ⟨e_NoName, PySem.W.mg_of X G n_NoName⟩
  let E_NoCut : Ec K mg "NoCut" := ⟨e_NoCut, PySem.W.mg_of X G n_NoCut, x_NoCut⟩
  let E_NoSpan : Ec K mg "NoSpan" := ⟨e_NoSpan, PySem.W.mg_of X G n_NoSpan, x_NoSpan⟩
  let E_BoxError : Ec K mg "BoxError" := ⟨e_BoxError, PySem.W.mg_of X G n_BoxError, x_BoxError⟩
  have nx_NoRow : Nx K E_NoRow.c := ⟨nxga_NoRow, nxhk_NoRow, nxha_NoRow, nxhn, nxht, nxhm_NoRow, nxhb_NoRow⟩
  refine ⟨PySem.W.fnOf "law" "law" (defArgs s_law) (defBody s_law) (defScope s_law) .none kV14 dc14 pm14 an14 cd14 ct14, fun s v => .of_eq rfl, fun base _ _ => ?_⟩
  let G_is_whole := mk_is_whole (P := l.prog) (w := w) (base := base) d_is_whole z_isinstance z_bool z_int kit_bool kit_int
  let G_greatest_divisor := mk_greatest_divisor (P := l.prog) (w := w) (base := base) d_greatest_divisor
  let G_fraction := mk_fraction (P := l.prog) (w := w) (base := base) d_fraction E_NoNumber G_greatest_divisor G_is_whole z_abs
  let G_made_of := mk_made_of (P := l.prog) (w := w) (base := base) d_made_of z_all z_len
  let G_figures_of := mk_figures_of (P := l.prog) (w := w) (base := base) d_figures_of z_reversed z_str
  let G_written := mk_written (P := l.prog) (w := w) (base := base) d_written G_figures_of z_abs
  let G_number_of := mk_number_of (P := l.prog) (w := w) (base := base) d_number_of E_NoRow E_NoNumber G_written G_fraction G_made_of g_MOST_FIGURES g_FIGURES z_int
  let G_law_cell_at := mk_law_cell_at (P := l.prog) (w := w) (base := base) d_law_cell_at z_len
  let G_law_whole := mk_law_whole (P := l.prog) (w := w) (base := base) d_law_whole z_isinstance z_bool z_int kit_bool kit_int
  let G_law_divisor := mk_law_divisor (P := l.prog) (w := w) (base := base) d_law_divisor
  let G_law_text := mk_law_text (P := l.prog) (w := w) (base := base) d_law_text z_str
  let G_law_other := mk_law_other (P := l.prog) (w := w) (base := base) d_law_other E_NoBook E_NoTask E_TooMuch E_NoName E_NoCut E_NoSpan E_NoNumber E_NoRow z_isinstance nx_NoRow iB_NoRow_NoBook iB_NoRow_NoTask iB_NoRow_TooMuch iB_NoRow_NoName iB_NoRow_NoCut iB_NoRow_NoSpan iB_NoRow_NoNumber
  let G_law_refused := mk_law_refused (P := l.prog) (w := w) (base := base) d_law_refused E_NoRow E_BoxError E_NoNumber G_number_of G_law_other z_isinstance z_ValueError nx_NoRow iB_NoRow_NoRow s_NoRow_BoxError iT_NoRow_ValueError
  let G_law_no_number := mk_law_no_number (P := l.prog) (w := w) (base := base) d_law_no_number z_str z_abs z_len
  let G_law := mk_law (P := l.prog) (w := w) (base := base) d_law E_NoRow E_NoNumber G_law_refused G_law_no_number G_law_cell_at G_law_text G_written G_law_whole G_number_of G_law_divisor z_isinstance z_str z_len z_tuple z_abs kit_str kit_tuple
  exact G_law.ok
end Mine
open PySem PySem.W PyProof.Rows
set_option maxRecDepth 100000 in
set_option maxHeartbeats 0 in
theorem PySem.Challenge.cw_boxnarrow_k11_numbers_written_holds : PySem.Challenge.rw_boxnarrow_k11_numbers_written.Holds := by
  w_on; o_law; k_head; (case hw => w_witness2)
  k_fill
  refine L3.law_walk (l := PySem.Challenge.rw_boxnarrow_k11_numbers_written) (x := "_law_script") 5 rfl rfl ⟨rfl, by decide, by decide⟩ (fun w h Y => PySem.W.kIn_of Y) ?F
  case F =>
    intro w mg fa h KX G hmg
    refine' Mine.all_mk KX G hmg (a0 := ?a0) (l0 := ?l0) (c0 := ?c0) (k0 := ?k0) (a1 := ?a1) (l1 := ?l1) (c1 := ?c1) (k1 := ?k1) (a2 := ?a2) (l2 := ?l2) (c2 := ?c2) (k2 := ?k2) (a3 := ?a3) (l3 := ?l3) (c3 := ?c3) (k3 := ?k3) (a4 := ?a4) (l4 := ?l4) (c4 := ?c4) (k4 := ?k4) (a5 := ?a5) (l5 := ?l5) (c5 := ?c5) (k5 := ?k5) (a6 := ?a6) (l6 := ?l6) (c6 := ?c6) (k6 := ?k6) (a7 := ?a7) (l7 := ?l7) (c7 := ?c7) (k7 := ?k7) (a8 := ?a8) (l8 := ?l8) (c8 := ?c8) (k8 := ?k8) (a9 := ?a9) (l9 := ?l9) (c9 := ?c9) (k9 := ?k9) (a10 := ?a10) (l10 := ?l10) (c10 := ?c10) (k10 := ?k10) (a11 := ?a11) (l11 := ?l11) (c11 := ?c11) (k11 := ?k11) (a12 := ?a12) (l12 := ?l12) (c12 := ?c12) (k12 := ?k12) (a13 := ?a13) (l13 := ?l13) (c13 := ?c13) (k13 := ?k13) (a14 := ?a14) (l14 := ?l14) (c14 := ?c14) (k14 := ?k14) (g_MOST_FIGURES := ?g_MOST_FIGURES) (g_FIGURES := ?g_FIGURES) (z_isinstance := ?z_isinstance) (z_bool := ?z_bool) (z_int := ?z_int) (z_abs := ?z_abs) (z_all := ?z_all) (z_len := ?z_len) (z_reversed := ?z_reversed) (z_str := ?z_str) (z_ValueError := ?z_ValueError) (z_tuple := ?z_tuple) (n_NoNumber := ?n_NoNumber) (x_NoNumber := ?x_NoNumber) (n_NoRow := ?n_NoRow) (x_NoRow := ?x_NoRow) (n_NoBook := ?n_NoBook) (x_NoBook := ?x_NoBook) (n_NoTask := ?n_NoTask) (x_NoTask := ?x_NoTask) (n_TooMuch := ?n_TooMuch) (x_TooMuch := ?x_TooMuch) (n_NoName := ?n_NoName) (n_NoCut := ?n_NoCut) (x_NoCut := ?x_NoCut) (n_NoSpan := ?n_NoSpan) (x_NoSpan := ?x_NoSpan) (n_BoxError := ?n_BoxError) (x_BoxError := ?x_BoxError) (s_NoRow_BoxError := ?s_NoRow_BoxError) (iT_NoRow_ValueError := ?iT_NoRow_ValueError) (iB_NoRow_NoBook := ?iB_NoRow_NoBook) (iB_NoRow_NoTask := ?iB_NoRow_NoTask) (iB_NoRow_TooMuch := ?iB_NoRow_TooMuch) (iB_NoRow_NoName := ?iB_NoRow_NoName) (iB_NoRow_NoCut := ?iB_NoRow_NoCut) (iB_NoRow_NoSpan := ?iB_NoRow_NoSpan) (iB_NoRow_NoNumber := ?iB_NoRow_NoNumber) (iB_NoRow_NoRow := ?iB_NoRow_NoRow) (nxga_NoRow := ?nxga_NoRow) (nxhk_NoRow := ?nxhk_NoRow) (nxha_NoRow := ?nxha_NoRow) (nxhm_NoRow := ?nxhm_NoRow) (nxhb_NoRow := ?nxhb_NoRow) (nxhn := ?nxhn) (nxht := ?nxht) (kit_bool := ?kit_bool) (kit_int := ?kit_int) (kit_str := ?kit_str) (kit_tuple := ?kit_tuple)
    (case a0 => k_is)
    (case l0 => k_is)
    (case c0 => k_is)
    (case k0 => k_is)
    (case a1 => k_is)
    (case l1 => k_is)
    (case c1 => k_is)
    (case k1 => k_is)
    (case a2 => k_is)
    (case l2 => k_is)
    (case c2 => k_is)
    (case k2 => k_is)
    (case a3 => k_is)
    (case l3 => k_is)
    (case c3 => k_is)
    (case k3 => k_is)
    (case a4 => k_is)
    (case l4 => k_is)
    (case c4 => k_is)
    (case k4 => k_is)
    (case a5 => k_is)
    (case l5 => k_is)
    (case c5 => k_is)
    (case k5 => k_is)
    (case a6 => k_is)
    (case l6 => k_is)
    (case c6 => k_is)
    (case k6 => k_is)
    (case a7 => k_is)
    (case l7 => k_is)
    (case c7 => k_is)
    (case k7 => k_is)
    (case a8 => k_is)
    (case l8 => k_is)
    (case c8 => k_is)
    (case k8 => k_is)
    (case a9 => k_is)
    (case l9 => k_is)
    (case c9 => k_is)
    (case k9 => k_is)
    (case a10 => k_is)
    (case l10 => k_is)
    (case c10 => k_is)
    (case k10 => k_is)
    (case a11 => k_is)
    (case l11 => k_is)
    (case c11 => k_is)
    (case k11 => k_is)
    (case a12 => k_is)
    (case l12 => k_is)
    (case c12 => k_is)
    (case k12 => k_is)
    (case a13 => k_is)
    (case l13 => k_is)
    (case c13 => k_is)
    (case k13 => k_is)
    (case a14 => k_is)
    (case l14 => k_is)
    (case c14 => k_is)
    (case k14 => k_is)
    (case g_MOST_FIGURES => k_is)
    (case g_FIGURES => k_is)
    (case z_isinstance => k_is)
    (case z_bool => k_is)
    (case z_int => k_is)
    (case z_abs => k_is)
    (case z_all => k_is)
    (case z_len => k_is)
    (case z_reversed => k_is)
    (case z_str => k_is)
    (case z_ValueError => k_is)
    (case z_tuple => k_is)
    (case n_NoNumber => k_is)
    (case x_NoNumber => k_exc)
    (case n_NoRow => k_is)
    (case x_NoRow => k_exc)
    (case n_NoBook => k_is)
    (case x_NoBook => k_exc)
    (case n_NoTask => k_is)
    (case x_NoTask => k_exc)
    (case n_TooMuch => k_is)
    (case x_TooMuch => k_exc)
    (case n_NoName => k_is)
    (case n_NoCut => k_is)
    (case x_NoCut => k_exc)
    (case n_NoSpan => k_is)
    (case x_NoSpan => k_exc)
    (case n_BoxError => k_is)
    (case x_BoxError => k_exc)
    (case s_NoRow_BoxError => kts_exm)
    (case iT_NoRow_ValueError => kit_is)
    (case iB_NoRow_NoBook => kit_is)
    (case iB_NoRow_NoTask => kit_is)
    (case iB_NoRow_TooMuch => kit_is)
    (case iB_NoRow_NoName => kit_is)
    (case iB_NoRow_NoCut => kit_is)
    (case iB_NoRow_NoSpan => kit_is)
    (case iB_NoRow_NoNumber => kit_is)
    (case iB_NoRow_NoRow => kit_is)
    (case nxga_NoRow => k_is)
    (case nxhk_NoRow => k_is)
    (case nxha_NoRow => k_is)
    (case nxhm_NoRow => k_is)
    (case nxhb_NoRow => k_is)
    (case nxhn => k_is)
    (case nxht => k_is)
    (case kit_bool => exact L3.kit_all _ _ (by simp))
    (case kit_int => exact L3.kit_all _ _ (by simp))
    (case kit_str => exact L3.kit_all _ _ (by simp))
    (case kit_tuple => exact L3.kit_all _ _ (by simp))

