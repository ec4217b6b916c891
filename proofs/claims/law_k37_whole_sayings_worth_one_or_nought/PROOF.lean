import PyProof.Rows.All
import Wide.All
import OpenK.AllK
import Wide.FinOn
import Lean
import PyProof.EqAt
import PyProof.EqKinds
import PyProof.TupleCall
import PySem.Challenge.RW_lentshelf_k37_whole_sayings_worth_one_or
set_option Elab.async false
set_option linter.all false
-- CHANGE: your row's module here, as the last of these rows
set_option Elab.async false
set_option linter.all false
set_option maxRecDepth 100000
/-! THE HAND LAYER, for ints, bools, texts, own classes, LISTS and tuples (index, slices, in, append, pop ..), calls, loops. Paste it whole ahead of your own text; what your proof does not reach may be deleted. -/
namespace L2
open PySem PySem.Spec PyProof.Rows

/-- a key: an int or a str -/
abbrev Key := Sum Int Str
def keyIs : Key → Value → Bool
  | .inl k, v => Value.isInt k v
  | .inr x, v => Value.isStrOf x v
def keyH (w : World) : Key → Int
  | .inl k => hashInt k
  | .inr x => hashStr w x
theorem keyIs_shape : ∀ {k : Key} {v : Value}, keyIs k v = true → (∃ i t, k = Sum.inl i ∧ v = Value.int i t) ∨ (∃ x t, k = Sum.inr x ∧ v = Value.str x t)
  | .inl i, v, h => by
    obtain ⟨t, e⟩ := Value.isInt_shape (k := i) (v := v) h
    exact .inl ⟨i, t, rfl, e⟩
  | .inr x, v, h => by
    obtain ⟨t, e⟩ := Value.isStrOf_shape (x := x) (v := v) h
    exact .inr ⟨x, t, rfl, e⟩
theorem key_ll (a b : Int) : decide ((Sum.inl a : Key) = Sum.inl b) = (a == b) := by
  by_cases e : a = b
  · subst e; simp
  · have h : ¬ (Sum.inl a : Key) = Sum.inl b := fun q => e (Sum.inl.inj q)
    rw [decide_eq_false h]
    exact (beq_eq_false_iff_ne.mpr e).symm
theorem key_rr (a b : Str) : decide ((Sum.inr a : Key) = Sum.inr b) = decide (a = b) := by
  by_cases e : a = b
  · subst e; simp
  · have h : ¬ (Sum.inr a : Key) = Sum.inr b := fun q => e (Sum.inr.inj q)
    rw [decide_eq_false h, decide_eq_false e]
theorem key_lr (a : Int) (b : Str) : decide ((Sum.inl a : Key) = Sum.inr b) = false := decide_eq_false (fun q => nomatch q)
theorem key_rl (a : Str) (b : Int) : decide ((Sum.inr a : Key) = Sum.inl b) = false := decide_eq_false (fun q => nomatch q)

def mixKind (prog : Program) (w : World) : PySem.KeyKind prog w Key where
  is := keyIs
  hash := keyH w
  inj := fun v a b ha hb => by
    rcases keyIs_shape ha with ⟨i, t, rfl, rfl⟩ | ⟨x, t, rfl, rfl⟩
    · rcases keyIs_shape hb with ⟨j, u, rfl, e⟩ | ⟨y, u, rfl, e⟩
      · injection e with e1 _; rw [e1]
      · exact nomatch e
    · rcases keyIs_shape hb with ⟨j, u, rfl, e⟩ | ⟨y, u, rfl, e⟩
      · exact nomatch e
      · injection e with e1 _; rw [e1]
  byValue := fun k v h => by
    rcases keyIs_shape h with ⟨i, t, rfl, rfl⟩ | ⟨x, t, rfl, rfl⟩ <;> rfl
  pyHash := fun hv h => by
    rcases keyIs_shape hv with ⟨i, t, rfl, rfl⟩ | ⟨x, t, rfl, rfl⟩
    · exact wpAny_pyHash_int h
    · exact wpAny_pyHash_str h
  eqBool := fun hu hv h => by
    rcases keyIs_shape hu with ⟨i, t, rfl, rfl⟩ | ⟨x, t, rfl, rfl⟩
    · rcases keyIs_shape hv with ⟨j, u, rfl, rfl⟩ | ⟨y, u, rfl, rfl⟩
      · rw [key_ll] at h; exact wpAny_eqBool_int h
      · rw [key_lr] at h; exact SeqAt.EqAt.int_str i t y u _ _ _ _ h
    · rcases keyIs_shape hv with ⟨j, u, rfl, rfl⟩ | ⟨y, u, rfl, rfl⟩
      · rw [key_rl] at h; exact SeqAt.EqAt.str_int x t j u _ _ _ _ h
      · rw [key_rr] at h; exact wpAny_eqBool_str h
  «strs» := fun k x t v h => by
    rcases keyIs_shape h with ⟨i, u, rfl, e⟩ | ⟨y, u, rfl, e⟩
    · exact nomatch e
    · injection e with e1 _
      subst e1
      cases v <;> rfl

theorem mixKind_is (prog : Program) (w : World) (k : Key) (v : Value) : (mixKind prog w).is k v = keyIs k v := rfl
end L2

namespace L2
open PySem PySem.Spec PyProof.Rows

/-- a value, without the heap -/
inductive V where
  | non | bl (b : Bool) | int (i : Int) | str (x : Str) | byt (b : Array UInt8) | flt (b : UInt64) | ref (a : Addr) | ty (n : String)
  deriving DecidableEq

def RelV : V → Value → Prop
  | .non, u => u = Value.none
  | .bl b, u => u = Value.bool b
  | .int i, u => ∃ t, u = Value.int i t
  | .str x, u => ∃ t, u = Value.str x t
  | .byt b, u => ∃ t, u = Value.bytes b t
  | .flt b, u => ∃ t, u = Value.float b t
  | .ref a, u => u = Value.ref a
  | .ty n, u => u = Value.type n

abbrev Vals : List V → List Value → Prop := Paired RelV
theorem Vals.length {xs : List V} {us : List Value} (r : Vals xs us) : xs.length = us.length := Paired.length r
theorem Vals.get : ∀ {xs : List V} {us : List Value} {i : Nat} {x : V}, Vals xs us → xs[i]? = some x → ∃ u, us[i]? = some u ∧ RelV x u
  | _, _, _, _, .nil, e => by simp at e
  | _, _, 0, _, .cons r _, e => by simp at e; subst e; exact ⟨_, rfl, r⟩
  | _, _, i + 1, x, .cons _ t, e => by
    obtain ⟨u, h1, h2⟩ := Vals.get (i := i) (x := x) t (by simpa using e)
    exact ⟨u, by simpa using h1, h2⟩
theorem Vals.set {x : V} {u : Value} (r : RelV x u) : ∀ {xs : List V} {us : List Value} (i : Nat), Vals xs us → Vals (xs.set i x) (us.set i u)
  | _, _, _, .nil => .nil
  | _, _, 0, .cons _ t => .cons r t
  | _, _, i + 1, .cons q t => .cons q (Vals.set r i t)
theorem Vals.append : ∀ {xs ys : List V} {us ws : List Value}, Vals xs us → Vals ys ws → Vals (xs ++ ys) (us ++ ws)
  | _, _, _, _, .nil, s => s
  | _, _, _, _, .cons r t, s => .cons r (Vals.append t s)
theorem Vals.take : ∀ {xs : List V} {us : List Value} (n : Nat), Vals xs us → Vals (xs.take n) (us.take n)
  | _, _, 0, _ => .nil
  | _, _, _ + 1, .nil => .nil
  | _, _, n + 1, .cons r t => .cons r (Vals.take n t)
theorem Vals.drop : ∀ {xs : List V} {us : List Value} (n : Nat), Vals xs us → Vals (xs.drop n) (us.drop n)
  | _, _, 0, r => r
  | _, _, _ + 1, .nil => .nil
  | _, _, n + 1, .cons _ t => Vals.drop n t
def RelO : Option V → Option Value → Prop
  | some v, some u => RelV v u
  | none, none => True
  | _, _ => False
def KV {κ : Type} : List (κ × V) → List (κ × Value) → Prop := Paired fun (p : κ × V) (q : κ × Value) => p.1 = q.1 ∧ RelV p.2 q.2

/-- a key of a dict (00_mix): an int or a text -/
def kV : Key → V
  | .inl i => .int i
  | .inr x => .str x

/-- what stands at a tracked address -/
inductive HO where
  /-- a list -/
  | lst (xs : List V)
  /-- a tuple (never changes) -/
  | tup (xs : List V)
  /-- a dict whose keys are ints and texts; one whose keys are tuples of ints and texts (the empty one is both) -/
  | dK (kvs : List (Key × V)) | dT (kvs : List (List Key × V))
  /-- a set of ints: its members, its size -/
  | set (S : Int → Bool) (n : Nat)
  /-- an instance of the class at C, its dict at dx, its attributes -/
  | ins (C dx : Addr) (fs : List (Str × V))
  /-- the dict of the instance at x -/
  | own (x : Addr)
  /-- the dict of an exception -/
  | xd (fs : List (Str × V))
  /-- a bound method, f of x -/
  | met (f x : Addr)
  /-- a range object lo, lo + 1, .. below hi -/
  | rng (lo hi : Int)
  /-- a thing that is known to the object (the script; a dict while a loop walks it): read, never written while it is so -/
  | frz (o : Obj) (u : HO)
  /-- a code object's table -/
  | tbl (ps : Array Value)
  /-- any other thing, by what is true of its one object (a def of one's own: SetO a S n := HO.ext fun h => ..) -/
  | ext (φ : Heap → Prop)

abbrev Hp := Addr → Option HO
def upd (H : Hp) (a : Addr) (o : HO) : Hp := fun b => if b = a then some o else H b
theorem upd_same {H : Hp} {a : Addr} {o : HO} : upd H a o a = some o := by unfold upd; rw [if_pos rfl]
theorem upd_ne {H : Hp} {a b : Addr} {o : HO} (h : b ≠ a) : upd H a o b = H b := by unfold upd; rw [if_neg h]
/-- two objects of different content stand apart -/
theorem ne_of {H : Hp} {a b : Addr} {o u : HO} (h : H a = some o) (h' : H b = some u) (d : o ≠ u) : a ≠ b := by
  intro e; subst e; rw [h] at h'; exact d (Option.some.inj h')
theorem ne_of_none {H : Hp} {a b : Addr} {o : HO} (h : H a = some o) (h' : H b = none) : a ≠ b := by
  intro e; subst e; rw [h] at h'; cases h'

section
variable (P : Program) (w : World)
def ObjOk (H : Hp) (h : Heap) (a : Addr) : HO → Prop
  | .lst xs => xs.length ≤ sizeLine ∧ ∃ (its : List Value) (n : Nat), Vals xs its ∧ h.get? a = some { cls := .type "list", data := .seq its.toArray n }
  | .tup xs => xs.length ≤ sizeLine ∧ ∃ its : List Value, Vals xs its ∧ IsTup h a its.toArray
  | .dK kvs => kvs.length ≤ sizeLine ∧ (a == sysModules) = false ∧ ∃ vs, KV kvs vs ∧ h.DictOf (mixKind P w) a vs
  | .dT kvs => kvs.length ≤ sizeLine ∧ (a == sysModules) = false ∧ ∃ xs : List (List Key × Addr × Value),
      Paired (fun (p : List Key × V) (q : List Key × Addr × Value) => p.1 = q.1 ∧ H q.2.1 = some (.tup (p.1.map kV)) ∧ RelV p.2 q.2.2) kvs xs ∧
      ∃ o es ep, h.get? a = some o ∧ o.ExactDict ∧ o.data = .dict es ep ∧ es.toList = xs.map (entryOfKey (tupleKind (mixKind P w))) ∧ (xs.map (·.1)).Nodup
  | .set S n => h.SetOf (intKind P w) a S n
  | .ins C dx fs => H dx = some (.own a) ∧ fs.length ≤ 1000 ∧ dx ≠ a ∧ h.get? a = some (PySem.W.instObj C dx) ∧
      ∃ mA, h.Ns1 dx mA ∧ (∀ f, RelO (fs.lookup f) (mA f)) ∧ PySem.Within mA (fs.map (·.1))
  | .own _ => ∃ o, h.get? a = some o
  | .xd fs => ∃ mA, h.Ns1 a mA ∧ ∀ f, RelO (fs.lookup f) (mA f)
  | .rng lo hi => ∃ t u v, h.get? a = some { cls := .type "range", data := .fields #[.int lo t, .int hi u, .int 1 v] }
  | .frz o u => h.get? a = some o ∧ ObjOk H h a u
  | .tbl ps => h.get? a = some { cls := .none, data := .fields ps }
  | .met f x => h.get? a = some (PySem.W.methodObj (.ref f) (.ref x))
  | .ext φ => φ h ∧ (∃ o, h.get? a = some o) ∧ ∀ h1 h2 : Heap, φ h1 → (∀ o, h1.get? a = some o → h2.get? a = some o) → φ h2
/-- the abstract heap is held -/
def HOk (H : Hp) (h : Heap) : Prop := ∀ a o, H a = some o → ObjOk P w H h a o
end

section
variable {P : Program} {w : World} {H H' : Hp} {h h' : Heap} {a : Addr} {o : HO}
theorem ObjOk.lt (x : ObjOk P w H h a o) : a < h.objs.size := by
  cases o with
  | lst xs => obtain ⟨_, _, _, _, e⟩ := x; exact Heap.lt_size e
  | tup xs => obtain ⟨_, _, _, p⟩ := x; exact p.lt
  | dK kvs => obtain ⟨_, _, _, _, o, _, _, e, _⟩ := x; exact Heap.lt_size e
  | dT kvs => obtain ⟨_, _, _, _, o, _, _, e, _⟩ := x; exact Heap.lt_size e
  | set S n => obtain ⟨o, _, _, _, e, _⟩ := x; exact Heap.lt_size e
  | ins C dx fs => obtain ⟨_, _, _, e, _⟩ := x; exact Heap.lt_size e
  | own y => obtain ⟨_, e⟩ := x; exact Heap.lt_size e
  | xd fs => obtain ⟨_, ⟨_, _, _, e, _⟩, _⟩ := x; exact Heap.lt_size e
  | rng lo hi => obtain ⟨_, _, _, e⟩ := x; exact Heap.lt_size e
  | frz ob u => obtain ⟨e, _⟩ := x; exact Heap.lt_size e
  | tbl ps => exact Heap.lt_size (show h.get? a = some _ from x)
  | met f y => exact Heap.lt_size (show h.get? a = some _ from x)
  | ext φ => obtain ⟨_, ⟨_, e⟩, _⟩ := x; exact Heap.lt_size e
theorem Paired.mapP {α β : Type} {F G : α → β → Prop} : ∀ {l₁ : List α} {l₂ : List β}, Paired F l₁ l₂ → (∀ a b, F a b → G a b) → Paired G l₁ l₂
  | _, _, .nil, _ => .nil
  | _, _, .cons r t, f => .cons (f _ _ r) (Paired.mapP t f)
/-- what an object's description leans on: its own object, its own dict, the tuples -/
theorem ObjOk.stay (x : ObjOk P w H h a o) (k : ∀ b u, (b = a ∨ H b = some (.own a)) → h.get? b = some u → h'.get? b = some u)
    (ho : ∀ b, H b = some (.own a) → H' b = some (.own a)) (ht : ∀ b xs, H b = some (.tup xs) → H' b = some (.tup xs)) : ObjOk P w H' h' a o := by
  induction o with
  | lst xs => obtain ⟨z, its, n, r, e⟩ := x; exact ⟨z, its, n, r, k _ _ (.inl rfl) e⟩
  | tup xs => obtain ⟨z, its, r, ob, e, c⟩ := x; exact ⟨z, its, r, ob, k _ _ (.inl rfl) e, c⟩
  | dK kvs => obtain ⟨z, y, vs, r, ob, es, ep, e, c⟩ := x; exact ⟨z, y, vs, r, ob, es, ep, k _ _ (.inl rfl) e, c⟩
  | dT kvs =>
    obtain ⟨z, y, xs, r, ob, es, ep, e, c⟩ := x
    exact ⟨z, y, xs, Paired.mapP r fun p q z => ⟨z.1, ht _ _ z.2.1, z.2.2⟩, ob, es, ep, k _ _ (.inl rfl) e, c⟩
  | set S n => obtain ⟨ob, es, ep, t, e, c⟩ := x; exact ⟨ob, es, ep, t, k _ _ (.inl rfl) e, c⟩
  | ins C dx fs =>
    obtain ⟨d, z, ne, e, mA, ⟨od, es, ep, e2, c⟩, r⟩ := x
    exact ⟨ho _ d, z, ne, k _ _ (.inl rfl) e, mA, ⟨od, es, ep, k _ _ (.inr d) e2, c⟩, r⟩
  | own y => obtain ⟨ob, e⟩ := x; exact ⟨ob, k _ _ (.inl rfl) e⟩
  | xd fs => obtain ⟨mA, ⟨od, es, ep, e, c⟩, r⟩ := x; exact ⟨mA, ⟨od, es, ep, k _ _ (.inl rfl) e, c⟩, r⟩
  | rng lo hi => obtain ⟨t, u, v, e⟩ := x; exact ⟨t, u, v, k _ _ (.inl rfl) e⟩
  | frz ob u ih => obtain ⟨e, q⟩ := x; exact ⟨k _ _ (.inl rfl) e, ih q⟩
  | tbl ps =>
    have e : h.get? a = some { cls := .none, data := .fields ps } := x
    show h'.get? a = some { cls := .none, data := .fields ps }
    exact k a _ (.inl rfl) e
  | met f y =>
    have e : h.get? a = some (PySem.W.methodObj (.ref f) (.ref y)) := x
    show h'.get? a = some (PySem.W.methodObj (.ref f) (.ref y))
    exact k a _ (.inl rfl) e
  | ext φ => obtain ⟨p, ⟨o, e⟩, st⟩ := x; exact ⟨st _ _ p fun o q => k _ _ (.inl rfl) q, ⟨o, k _ _ (.inl rfl) e⟩, st⟩
theorem HOk.lt (x : HOk P w H h) (e : H a = some o) : a < h.objs.size := (x a o e).lt
theorem HOk.fresh (x : HOk P w H h) (e : h.objs.size ≤ a) : H a = none := by
  cases q : H a with
  | none => rfl
  | some u => exact absurd (Nat.lt_of_lt_of_le (x.lt q) e) (Nat.lt_irrefl _)
/-- every object of the heap is kept -/
theorem HOk.kept (x : HOk P w H h) (k : ∀ b u, h.get? b = some u → h'.get? b = some u) : HOk P w H h' := fun a o e =>
  (x a o e).stay (fun b u _ q => k b u q) (fun _ q => q) fun _ _ q => q
/-- a new object is laid and tracked -/
theorem HOk.laid (x : HOk P w H h) (k : ∀ b u, h.get? b = some u → h'.get? b = some u) (hp : h.objs.size ≤ a) (new : ObjOk P w (upd H a o) h' a o) : HOk P w (upd H a o) h' := fun b u e => by
  have hn := x.fresh hp
  by_cases hb : b = a
  · subst hb; rw [upd_same] at e; cases e; exact new
  · rw [upd_ne hb] at e
    exact (x b u e).stay (fun c v _ q => k c v q) (fun c q => by rw [upd_ne (ne_of_none q hn)]; exact q) fun c xs q => by rw [upd_ne (ne_of_none q hn)]; exact q
end

/-- what may be read as u: it is u, or a known u -/
def Rd (H : Hp) (a : Addr) (u : HO) : Prop := H a = some u ∨ ∃ o, H a = some (.frz o u)
theorem Rd.of {H : Hp} {a : Addr} {u : HO} (h : H a = some u) : Rd H a u := .inl h
theorem Rd.ok {P : Program} {w : World} {H : Hp} {h : Heap} {a : Addr} {u : HO} (r : Rd H a u) (x : HOk P w H h) : ObjOk P w H h a u := by
  rcases r with r | ⟨o, r⟩
  · exact x a u r
  · obtain ⟨_, q⟩ := x a _ r
    exact q
/-- what may be written -/
def Mut : Option HO → Prop
  | some (.lst _) => True
  | some (.dK _) => True
  | some (.dT _) => True
  | some (.set _ _) => True
  | some (.ins _ _ _) => True
  | some (.ext _) => True
  | _ => False
section
variable {P : Program} {w : World} {H : Hp} {h h' : Heap} {x e : Addr} {o' : HO}
/-- the object at e is changed: x itself, or the dict of the instance x -/
theorem HOk.write (ok : HOk P w H h) (mu : Mut (H x)) (he : e = x ∨ H e = some (.own x)) (k : ∀ b u, b ≠ e → h.get? b = some u → h'.get? b = some u) (heo : ∃ u, h'.get? e = some u)
    (new : ObjOk P w (upd H x o') h' x o') : HOk P w (upd H x o') h' := fun b u q => by
  have nown : ∀ c y, H c = some (.own y) → c ≠ x := fun c y r z => by subst z; rw [r] at mu; exact mu
  have ntup : ∀ c xs, H c = some (.tup xs) → c ≠ x := fun c xs r z => by subst z; rw [r] at mu; exact mu
  by_cases hb : b = x
  · subst hb; rw [upd_same] at q; cases q; exact new
  · rw [upd_ne hb] at q
    by_cases hbe : b = e
    · have q' : H b = some (.own x) := by
        rcases he with z | z
        · exact absurd (hbe.trans z) hb
        · rw [hbe]; exact z
      rw [q] at q'; cases q'
      obtain ⟨v, hv⟩ := heo
      exact ⟨v, by rw [hbe]; exact hv⟩
    · refine (ok b u q).stay (fun c v hc r => k c v ?_ r) (fun c r => by rw [upd_ne (nown c b r)]; exact r) fun c xs r => by rw [upd_ne (ntup c xs r)]; exact r
      rcases hc with rfl | hc
      · exact hbe
      · rintro rfl
        rcases he with z | z
        · exact nown c b hc z
        · rw [hc] at z; cases z; exact hb rfl
end

/-! ### kept unless tracked; of the frames at fs (the callers') the slots may change (an exception that passes writes there); of the records at ex (iterators) nothing is said -/
structure Un (fs ex : List Addr) (H H' : Hp) (h h' : Heap) : Prop where
  keep : ∀ b o, h.get? b = some o → H b = none → b ∉ fs → b ∉ ex → h'.get? b = some o
  slot : ∀ b o, h.get? b = some o → H b = none → b ∈ fs → b ∉ ex → ∃ sl, h'.get? b = some { o with slots := sl }
  free : ∀ b o, h.get? b = some o → H b = none → b ∉ ex → H' b = none
  there : ∀ b o, h.get? b = some o → b ∉ ex → ∃ o', h'.get? b = some o'
  tups : ∀ b xs, H b = some (.tup xs) → H' b = some (.tup xs)
  frzs : ∀ b o u, H b = some (.frz o u) → H' b = some (.frz o u)
  tbls : ∀ b ps, H b = some (.tbl ps) → ∃ more, H' b = some (.tbl (ps ++ more))
section
variable {fs fs' ex ex' : List Addr} {H H1 H2 : Hp} {h h1 h2 h' : Heap} {a x e : Addr} {o : HO}
theorem Un.any (u : Un fs ex H H1 h h1) {b : Addr} {ob : Obj} (q : h.get? b = some ob) (n : H b = none) (hx : b ∉ ex) : ∃ sl, h1.get? b = some { ob with slots := sl } := by
  by_cases hb : b ∈ fs
  · exact u.slot b ob q n hb hx
  · exact ⟨ob.slots, u.keep b ob q n hb hx⟩
theorem Un.trans (a : Un fs ex H H1 h h1) (b : Un fs ex H1 H2 h1 h2) : Un fs ex H H2 h h2 where
  keep := fun c ob q n hc hx => b.keep c ob (a.keep c ob q n hc hx) (a.free c ob q n hx) hc hx
  slot := fun c ob q n hc hx => by
    obtain ⟨sl, e1⟩ := a.slot c ob q n hc hx
    obtain ⟨sl', e2⟩ := b.slot c _ e1 (a.free c ob q n hx) hc hx
    exact ⟨sl', e2⟩
  free := fun c ob q n hx => by
    obtain ⟨o', e1⟩ := a.there c ob q hx
    exact b.free c o' e1 (a.free c ob q n hx) hx
  there := fun c ob q hx => by
    obtain ⟨o', e1⟩ := a.there c ob q hx
    exact b.there c o' e1 hx
  tups := fun c xs q => b.tups c xs (a.tups c xs q)
  frzs := fun c ob xs q => b.frzs c ob xs (a.frzs c ob xs q)
  tbls := fun c ps q => by
    obtain ⟨m1, e1⟩ := a.tbls c ps q
    obtain ⟨m2, e2⟩ := b.tbls c _ e1
    exact ⟨m1 ++ m2, by rw [e2, Array.append_assoc]⟩
theorem Un.kept (k : ∀ b u, h.get? b = some u → h'.get? b = some u) : Un fs ex H H h h' :=
  ⟨fun b ob q _ _ _ => k b ob q, fun b ob q _ _ _ => ⟨ob.slots, k b ob q⟩, fun _ _ _ n _ => n, fun b ob q _ => ⟨ob, k b ob q⟩, fun _ _ q => q, fun _ _ _ q => q, fun _ ps q => ⟨#[], by rw [q]; simp⟩⟩
theorem Un.refl : Un fs ex H H h h := Un.kept fun _ _ q => q
theorem Un.laid (k : ∀ b u, h.get? b = some u → h'.get? b = some u) (hp : h.objs.size ≤ a) (hn : H a = none) : Un fs ex H (upd H a o) h h' where
  keep := fun b u q _ _ _ => k b u q
  slot := fun b u q _ _ _ => ⟨u.slots, k b u q⟩
  free := fun b u q n _ => by rw [upd_ne (Nat.ne_of_lt (Nat.lt_of_lt_of_le (Heap.lt_size q) hp))]; exact n
  there := fun b u q _ => ⟨u, k b u q⟩
  tups := fun b xs q => by rw [upd_ne (ne_of_none q hn)]; exact q
  frzs := fun b u xs q => by rw [upd_ne (ne_of_none q hn)]; exact q
  tbls := fun b ps q => ⟨#[], by rw [upd_ne (ne_of_none q hn), q]; simp⟩
theorem Un.write (mu : Mut (H x)) (he : e = x ∨ H e = some (.own x)) (k : ∀ b u, b ≠ e → h.get? b = some u → h'.get? b = some u) (heo : ∃ u, h'.get? e = some u) : Un fs ex H (upd H x o) h h' := by
  have hx : ∀ b, H b = none → b ≠ x := fun b n z => by subst z; rw [n] at mu; exact mu
  have hb : ∀ b, H b = none → b ≠ e := fun b n z => by
    subst z
    rcases he with r | r
    · exact hx b n r
    · rw [n] at r; cases r
  have hm : ∀ b u, H b = some u → ¬ Mut (some u) → b ≠ x := fun b u q nm z => by subst z; rw [q] at mu; exact nm mu
  refine ⟨fun b u q n _ _ => k b u (hb b n) q, fun b u q n _ _ => ⟨u.slots, k b u (hb b n) q⟩, fun b u q n _ => by rw [upd_ne (hx b n)]; exact n, fun b u q _ => ?_,
    fun b xs q => by rw [upd_ne (hm b _ q fun z => z)]; exact q, fun b u xs q => by rw [upd_ne (hm b _ q fun z => z)]; exact q, fun b ps q => ⟨#[], by rw [upd_ne (hm b _ q fun z => z), q]; simp⟩⟩
  by_cases hbe : b = e
  · subst hbe; exact heo
  · exact ⟨u, k b u hbe q⟩
theorem Un.mono (u : Un fs ex H H1 h h1) (hs : ∀ b ∈ fs, b ∈ fs') (hx : ∀ b ∈ ex, b ∈ ex') : Un fs' ex' H H1 h h1 :=
  ⟨fun b ob q n hb he => u.keep b ob q n (fun z => hb (hs b z)) fun z => he (hx b z), fun _ _ q n _ he => u.any q n fun z => he (hx _ z), fun b ob q n he => u.free b ob q n fun z => he (hx b z), fun b ob q he => u.there b ob q fun z => he (hx b z), u.tups, u.frzs, u.tbls⟩
end

/-! ### the heap without what is tracked -/
def trk (h : Heap) (H : Hp) : List Addr := (List.range h.objs.size).filter fun a => (H a).isSome
def hidT (h : Heap) (H : Hp) : Heap := PySem.W.hideAll h (trk h H)
theorem hidT_size (h : Heap) (H : Hp) : (hidT h H).objs.size = h.objs.size := PySem.W.hideAll_size _ _
theorem hidT_get {h : Heap} {H : Hp} {b : Addr} {o : Obj} (e : h.get? b = some o) (n : H b = none) : (hidT h H).get? b = some o :=
  PySem.W.hideAll_get _ e fun hm => by
    have q : (H b).isSome = true := (List.mem_filter.mp hm).2
    rw [n] at q; simp at q
theorem of_hidT {h : Heap} {H : Hp} {b : Addr} {o : Obj} (e : (hidT h H).get? b = some o) : h.get? b = some o ∧ H b = none := by
  have e' : h.get? b = some o := PySem.W.of_hideAll (trk h H) e
  refine ⟨e', ?_⟩
  cases q : H b with
  | none => rfl
  | some x =>
    have hm : b ∈ trk h H := List.mem_filter.mpr ⟨List.mem_range.mpr (Heap.lt_size e'), by simp [q]⟩
    have z : (hidT h H).get? b = none := PySem.W.hideAll_none (trk h H) hm
    rw [z] at e; cases e

/-! ### OpenK's ledger, filled with every new object but one -/
def allNews (g h : Heap) (L : Addr) : List (Addr × Obj) := (List.range h.objs.size).filterMap fun a => if a = L ∨ (g.get? a).isSome = true then none else (h.get? a).map fun o => (a, o)
def rest (g h : Heap) (L d : Addr) : List (Addr × Obj) := (allNews g h L).filter fun p => decide (p.1 ≠ d)
end L2

namespace L2
open PySem PySem.Spec PyProof.Rows

/-- the module's facts, over the base: the heap at the law's entry without what is tracked there -/
structure Mod (K : PySem.W.Frag) (mg : Str → Option Value) (base : Heap) : Prop where
  kin : K.In base
  glob : base.Ns mainGlobals mg
  blt : ∃ mb, base.Ns builtinsNs mb ∧ ∀ x : Str, x ≠ "__name__" → mb x = bootBuiltins x
  nolimit : base.NoLimit

/-- the context: a def's body (or a comprehension's block) running. base: fixed through the whole law; s₀, H₀: the entry; outer: the frames whose slots others may change (a def's callers); stack: all frames that run;
   ex: iterators that were made ahead of the entry and are walked here (a comprehension's); fn: the names whose cells were made at the entry (a def: all; a comprehension's block: its own); calm: not within an except suite; pn: pins that every state bears; xe: what is wanted of an exception that leaves the code -/
structure Cx where
  prog : Program
  w : World
  K : PySem.W.Frag
  mg : Str → Option Value
  base : Heap
  A : Around
  N : List Str
  s₀ : Shared
  H₀ : Hp
  env : Env
  outer : List Env
  stack : List Env
  ex : List Addr
  fn : Str → Bool
  calm : Bool
  pn : List (Addr × Obj)
  xe : Value → Shared → Prop
/-- the callers' frames -/
def frs (l : List Env) : List Addr := l.filterMap (·.frame)
abbrev Cx.fs (X : Cx) : List Addr := frs X.outer

def Vis (sc : Scope) (x : Str) : Prop := sc.names.lookup x = some .local ∨ sc.names.lookup x = some .cell ∨ sc.names.lookup x = some .free
def Loc (sc : Scope) (x : Str) : Prop := sc.names.lookup x = some .local ∨ sc.names.lookup x = some .cell
def Look (env : Env) (h : Heap) (m : Str → Option Value) (x : Str) (u : Value) : Prop :=
  (env.kindOf x = some .local ∧ m x = some u) ∨ ((env.kindOf x = some .cell ∨ env.kindOf x = some .free) ∧ ∃ c, env.cells.lookup x = some c ∧ h.IsCell c (some u))

structure Cx.Ok (X : Cx) : Prop where
  mod : Mod X.K X.mg X.base
  kind : X.env.scope.kind = .function
  glob : X.env.globals = mainGlobals
  blt : X.env.builtins = builtinsNs
  above : X.s₀.heap.objs.size ≤ X.env.locals
  inj : ∀ x y c, X.env.cells.lookup x = some c → X.env.cells.lookup y = some c → x = y
  has : ∀ x, (X.env.kindOf x = some .cell ∨ X.env.kindOf x = some .free) → ∃ c, X.env.cells.lookup x = some c
  cab : ∀ x c, X.fn x = true → X.env.cells.lookup x = some c → X.s₀.heap.objs.size ≤ c
  hd : X.calm = true → X.A.handled = none
  frames : X.A.frames = some X.stack
  stk : X.stack = X.outer ∨ (X.stack = X.env :: X.outer ∧ X.env.frame = some X.env.locals)
  exf : ∀ b ∈ X.ex, b ≠ X.env.locals ∧ ∀ x c, X.env.cells.lookup x = some c → c ≠ b
  bs : ∀ b o, X.base.get? b = some o → X.s₀.heap.get? b = some o ∧ X.H₀ b = none
  bsz : X.base.objs.size ≤ X.s₀.heap.objs.size
  noex : ∀ b o, X.base.get? b = some o → b ∉ X.ex
  exfs : ∀ b ∈ X.ex, b ∉ X.fs
  funs : X.s₀.heap.FunFrames X.base X.outer
  frf : ∀ b ∈ X.fs, X.H₀ b = none

structure Inv (X : Cx) (pins : List (Addr × Obj)) (σ : List (Option V)) (H : Hp) (s : Shared) : Prop where
  ok : X.Ok
  os : s.os = X.s₀.os
  bare : AllBare s.gens
  base : Un X.fs X.ex X.H₀ H X.s₀.heap s.heap
  loc : ∃ m, s.heap.Ns X.env.locals m ∧ ∀ (i : Nat) (x : Str) (v : V), X.N[i]? = some x → σ[i]? = some (some v) → Vis X.env.scope x → ∃ u, RelV v u ∧ Look X.env s.heap m x u
  cell : ∀ x c, X.env.cells.lookup x = some c → ∃ v, s.heap.IsCell c v
  free : H X.env.locals = none
  freeC : ∀ x c, X.env.cells.lookup x = some c → H c = none
  pin : ∀ p ∈ X.pn ++ pins, s.heap.get? p.1 = some p.2 ∧ H p.1 = none ∧ p.1 ≠ X.env.locals ∧ p.1 ∉ X.fs ∧ ∀ v, p.2.data ≠ .cell v
  hok : HOk X.prog X.w H s.heap
  len : σ.length = X.N.length

section
variable {X : Cx} {pins : List (Addr × Obj)} {σ : List (Option V)} {H H' : Hp} {s : Shared} {h' : Heap}

theorem Cx.Ok.nofr (ok : X.Ok) {b : Addr} {o : Obj} (e : X.base.get? b = some o) : b ∉ X.fs := fun hb => by
  have := (ok.funs.mem hb).1
  rw [e] at this; cases this
theorem Inv.bs (I : Inv X pins σ H s) : ∀ b o, X.base.get? b = some o → s.heap.get? b = some o ∧ H b = none := fun b o e =>
  ⟨I.base.keep b o (I.ok.bs b o e).1 (I.ok.bs b o e).2 (I.ok.nofr e) (I.ok.noex b o e), I.base.free b o (I.ok.bs b o e).1 (I.ok.bs b o e).2 (I.ok.noex b o e)⟩
theorem Inv.bk (I : Inv X pins σ H s) : ∀ b o, X.base.get? b = some o → s.heap.get? b = some o := fun b o e => (I.bs b o e).1
theorem Inv.mod (I : Inv X pins σ H s) : Mod X.K X.mg X.base := I.ok.mod
theorem Inv.kIn (I : Inv X pins σ H s) : X.K.In s.heap := I.ok.mod.kin.keeps I.bk
theorem Inv.nolimit (I : Inv X pins σ H s) : s.heap.NoLimit := I.ok.mod.nolimit.keeps I.bk
theorem Inv.lt (I : Inv X pins σ H s) : X.env.locals < s.heap.objs.size := let ⟨_, hn, _⟩ := I.loc; hn.lt
theorem Inv.sz (I : Inv X pins σ H s) : X.s₀.heap.objs.size ≤ s.heap.objs.size := Nat.le_trans I.ok.above (Nat.le_of_lt I.lt)
theorem Inv.nofs (I : Inv X pins σ H s) {a : Addr} (h : s.heap.objs.size ≤ a) : a ∉ X.fs := fun hb => by
  obtain ⟨_, o, ho, _⟩ := I.ok.funs.mem hb
  exact absurd (Nat.lt_of_lt_of_le (Heap.lt_size ho) (Nat.le_trans I.sz h)) (Nat.lt_irrefl _)
theorem Inv.cne (I : Inv X pins σ H s) : ∀ x c, X.env.cells.lookup x = some c → c ≠ X.env.locals := fun x c e z => by
  obtain ⟨v, o, ho, hd⟩ := I.cell x c e
  obtain ⟨m, ⟨o', es, ep, ho', hd', _⟩, _⟩ := I.loc
  rw [z, ho'] at ho; cases ho; rw [hd'] at hd; cases hd
theorem Inv.funs (I : Inv X pins σ H s) : s.heap.FunFrames X.base X.outer := by
  have all : ∀ (l : List Env), (∀ b ∈ frs l, b ∈ X.fs) → X.s₀.heap.FunFrames X.base l → s.heap.FunFrames X.base l := by
    intro l
    induction l with
    | nil => intro _ _; trivial
    | cons env r ih =>
      intro hs hl
      obtain ⟨hk, ⟨L, o, hf, hn, ho, hd⟩, hr⟩ := hl
      have hL : L ∈ X.fs := hs L (by unfold frs; rw [List.filterMap_cons, hf]; exact List.mem_cons_self)
      obtain ⟨sl, e⟩ := I.base.slot L o ho (I.ok.frf L hL) hL fun z => I.ok.exfs L z hL
      exact ⟨hk, ⟨L, _, hf, hn, e, hd⟩, ih (fun b hb => hs b (by unfold frs; rw [List.filterMap_cons, hf]; exact List.mem_cons_of_mem _ hb)) hr⟩
  exact all X.outer (fun _ hb => hb) I.ok.funs

/-- the frames that run, for a call -/
theorem Inv.stack (I : Inv X pins σ H s) : s.heap.FunFrames X.base X.stack := by
  rcases I.ok.stk with e | ⟨e, hf⟩
  · rw [e]; exact I.funs
  · rw [e]
    obtain ⟨m, hn, _⟩ := I.loc
    refine .cons (by rw [I.ok.kind]; decide) hf hn ?_ I.funs
    exact Heap.get?_none_of_le (Nat.le_trans I.ok.bsz I.ok.above)
theorem Inv.stkSub (I : Inv X pins σ H s) : ∀ b ∈ frs X.stack, b ∈ X.env.locals :: X.fs := fun b hb => by
  rcases I.ok.stk with e | ⟨e, hf⟩
  · rw [e] at hb; exact List.mem_cons_of_mem _ hb
  · rw [e] at hb
    unfold frs at hb
    rw [List.filterMap_cons, hf] at hb
    exact hb
theorem Inv.stkFree (I : Inv X pins σ H s) : ∀ b ∈ frs X.stack, H b = none := fun b hb => by
  rcases List.mem_cons.mp (I.stkSub b hb) with e | hb
  · rw [e]; exact I.free
  · obtain ⟨_, o, ho, _⟩ := I.ok.funs.mem hb
    exact I.base.free b o ho (I.ok.frf b hb) fun z => I.ok.exfs b z hb

/-- THE STEP: the untracked objects but the frame and the records at ch are kept (the callers' frames up to slots), the frame's map is kept, the new abstract heap is held -/
theorem Inv.step {g' : Array GenState} {t' : Nat} {d' : Drawn} {ch : List Addr} (I : Inv X pins σ H s)
    (hch : ∀ b ∈ ch, (b ∈ X.ex ∨ X.s₀.heap.objs.size ≤ b) ∧ b ≠ X.env.locals ∧ (∀ x c, X.env.cells.lookup x = some c → c ≠ b) ∧ ∀ p ∈ X.pn ++ pins, p.1 ≠ b)
    (keep : ∀ b o, b ≠ X.env.locals → b ∉ X.fs → b ∉ ch → s.heap.get? b = some o → H b = none → h'.get? b = some o)
    (slot : ∀ b o, b ≠ X.env.locals → b ∈ X.fs → b ∉ ch → s.heap.get? b = some o → H b = none → ∃ sl, h'.get? b = some { o with slots := sl }) (free : ∀ b o, b ∉ ch → s.heap.get? b = some o → H b = none → H' b = none)
    (there : ∀ b o, b ∉ ch → s.heap.get? b = some o → ∃ o', h'.get? b = some o')
    (tups : ∀ b xs, H b = some (.tup xs) → H' b = some (.tup xs)) (frzs : ∀ b o u, H b = some (.frz o u) → H' b = some (.frz o u)) (tbls : ∀ b ps, H b = some (.tbl ps) → ∃ more, H' b = some (.tbl (ps ++ more)))
    (ns : ∀ m, s.heap.Ns X.env.locals m → h'.Ns X.env.locals m) (hok : HOk X.prog X.w H' h') (hg : AllBare g') :
    Inv X pins σ H' { s with heap := h', gens := g', drawn := d', toks := t' } := by
  have neL : ∀ b o, X.s₀.heap.get? b = some o → b ≠ X.env.locals := fun b o e => Nat.ne_of_lt (Nat.lt_of_lt_of_le (Heap.lt_size e) I.ok.above)
  have neC : ∀ b o, X.s₀.heap.get? b = some o → b ∉ X.ex → b ∉ ch := fun b o e hx hb => by
    rcases (hch b hb).1 with z | z
    · exact hx z
    · exact absurd (Nat.lt_of_lt_of_le (Heap.lt_size e) z) (Nat.lt_irrefl _)
  have cellK : ∀ x c, X.env.cells.lookup x = some c → ∀ v, s.heap.IsCell c v → h'.IsCell c v := fun x c e v ⟨o, ho, hd⟩ => by
    have nch : c ∉ ch := fun z => (hch c z).2.2.1 x c e rfl
    by_cases hc : c ∈ X.fs
    · obtain ⟨sl, q⟩ := slot c o (I.cne x c e) hc nch ho (I.freeC x c e)
      exact ⟨_, q, hd⟩
    · exact ⟨o, keep c o (I.cne x c e) hc nch ho (I.freeC x c e), hd⟩
  refine ⟨I.ok, I.os, hg, ⟨fun b o e n hb hx => ?_, fun b o e n hb hx => ?_, fun b o e n hx => ?_, fun b o e hx => ?_, fun b xs e => tups b xs (I.base.tups b xs e), fun b o xs e => frzs b o xs (I.base.frzs b o xs e), fun b ps e => ?_⟩, ?_, fun x c e => ?_, ?_, fun x c e => ?_, fun p hp => ?_, hok, I.len⟩
  · exact keep b o (neL b o e) hb (neC b o e hx) (I.base.keep b o e n hb hx) (I.base.free b o e n hx)
  · obtain ⟨sl, e1⟩ := I.base.slot b o e n hb hx
    obtain ⟨sl', e2⟩ := slot b _ (neL b o e) hb (neC b o e hx) e1 (I.base.free b o e n hx)
    exact ⟨sl', e2⟩
  · obtain ⟨o', e1⟩ := I.base.there b o e hx
    exact free b o' (neC b o e hx) e1 (I.base.free b o e n hx)
  · obtain ⟨o', e1⟩ := I.base.there b o e hx
    exact there b o' (neC b o e hx) e1
  · obtain ⟨m1, e1⟩ := I.base.tbls b ps e
    obtain ⟨m2, e2⟩ := tbls b _ e1
    exact ⟨m1 ++ m2, by rw [e2, Array.append_assoc]⟩
  · obtain ⟨m, hn, hl⟩ := I.loc
    refine ⟨m, ns m hn, fun i x v e1 e2 e3 => ?_⟩
    obtain ⟨u, r, l⟩ := hl i x v e1 e2 e3
    refine ⟨u, r, ?_⟩
    rcases l with l | ⟨k, c, e, z⟩
    · exact .inl l
    · exact .inr ⟨k, c, e, cellK x c e _ z⟩
  · obtain ⟨v, z⟩ := I.cell x c e
    exact ⟨v, cellK x c e v z⟩
  · obtain ⟨m, ⟨o, _, _, ho, _⟩, _⟩ := I.loc
    exact free _ o (fun z => (hch _ z).2.1 rfl) ho I.free
  · obtain ⟨v, o, ho, hd⟩ := I.cell x c e
    exact free c o (fun z => (hch c z).2.2.1 x c e rfl) ho (I.freeC x c e)
  · obtain ⟨e, n, ne, nf, d⟩ := I.pin p hp
    have nch : p.1 ∉ ch := fun z => (hch p.1 z).2.2.2 p hp rfl
    exact ⟨keep p.1 p.2 ne nf nch e n, free p.1 p.2 nch e n, ne, nf, d⟩
/-- .. where the frame's own object is kept too -/
theorem Inv.un {t' : Nat} (I : Inv X pins σ H s) (u : Un X.fs [] H H' s.heap h') (hok : HOk X.prog X.w H' h') : Inv X pins σ H' { s with heap := h', toks := t' } := by
  obtain ⟨m, ⟨o, es, ep, ho, r⟩, _⟩ := id I.loc
  obtain ⟨sl, hL⟩ := u.any ho I.free (by simp)
  exact I.step (g' := s.gens) (d' := s.drawn) (ch := []) (fun _ z => nomatch z) (fun b o _ hb _ e n => u.keep b o e n hb (by simp)) (fun b o _ hb _ e n => u.slot b o e n hb (by simp)) (fun b o _ e n => u.free b o e n (by simp)) (fun b o _ e => u.there b o e (by simp)) u.tups u.frzs u.tbls (fun m' hm => by
    obtain ⟨o', es', ep', ho', r'⟩ := hm
    rw [ho] at ho'; cases ho'
    exact ⟨_, es', ep', hL, r'⟩) hok I.bare
/-- behind a call (or a comprehension's block): the slots of this frame may have changed too, the records at ch may have turned -/
theorem Inv.call {g' : Array GenState} {t' : Nat} {d' : Drawn} {ch : List Addr} (I : Inv X pins σ H s) (u : Un (frs X.stack) ch H H' s.heap h') (hok : HOk X.prog X.w H' h') (hg : AllBare g')
    (hch : ∀ b ∈ ch, (b ∈ X.ex ∨ X.s₀.heap.objs.size ≤ b) ∧ b ≠ X.env.locals ∧ (∀ x c, X.env.cells.lookup x = some c → c ≠ b) ∧ ∀ p ∈ X.pn ++ pins, p.1 ≠ b) :
    Inv X pins σ H' { s with heap := h', gens := g', drawn := d', toks := t' } := by
  obtain ⟨m, ⟨o, es, ep, ho, r⟩, _⟩ := id I.loc
  obtain ⟨sl, hL⟩ := u.any ho I.free fun z => (hch _ z).2.1 rfl
  exact I.step (ch := ch) hch (fun b o hL hb hc e n => u.keep b o e n (fun z => (List.mem_cons.mp (I.stkSub b z)).elim hL hb) hc) (fun b o _ _ hc e n => u.any e n hc) (fun b o hc e n => u.free b o e n hc) (fun b o hc e => u.there b o e hc) u.tups u.frzs u.tbls (fun m' hm => by
    obtain ⟨o', es', ep', ho', r'⟩ := hm
    rw [ho] at ho'; cases ho'
    exact ⟨_, es', ep', hL, r'⟩) hok hg
/-- an untracked record of ours (an iterator) has turned -/
theorem Inv.turned {t' : Nat} {it : Addr} (I : Inv X pins σ H s) (k : ∀ b o, b ≠ it → s.heap.get? b = some o → h'.get? b = some o) (hn : H it = none) (hL : it ≠ X.env.locals)
    (h1 : it ∈ X.ex ∨ X.s₀.heap.objs.size ≤ it) (h2 : ∀ x c, X.env.cells.lookup x = some c → c ≠ it) (h3 : ∀ p ∈ X.pn ++ pins, p.1 ≠ it) : Inv X pins σ H { s with heap := h', toks := t' } := by
  have nit : ∀ b u, H b = some u → b ≠ it := fun b u e z => by rw [z, hn] at e; cases e
  refine I.step (g' := s.gens) (d' := s.drawn) (ch := [it]) (fun b hb => ?_) (fun b o _ _ hc e _ => k b o (fun z => hc (by simp [z])) e) (fun b o _ _ hc e _ => ⟨o.slots, k b o (fun z => hc (by simp [z])) e⟩) (fun _ _ _ _ n => n)
    (fun b o hc e => ⟨o, k b o (fun z => hc (by simp [z])) e⟩) (fun _ _ e => e) (fun _ _ _ e => e) (fun b ps e => ⟨#[], by rw [e]; simp⟩) (fun m hm => ?_) (fun b u e => ?_) I.bare
  · have e : b = it := by simpa using hb
    subst e
    exact ⟨h1, hL, h2, h3⟩
  · obtain ⟨o, es, ep, ho, r⟩ := hm
    exact ⟨o, es, ep, k _ o (Ne.symm hL) ho, r⟩
  · refine (I.hok b u e).stay (fun c v hc q => k c v ?_ q) (fun _ q => q) fun _ _ q => q
    rcases hc with z | z
    · rw [z]; exact nit b u e
    · exact nit c _ z
theorem Inv.tok (I : Inv X pins σ H s) (t : Nat) : Inv X pins σ H { s with toks := t } := I.un (h' := s.heap) (t' := t) Un.refl I.hok
/-- all objects kept -/
theorem Inv.kept {t' : Nat} (I : Inv X pins σ H s) (k : ∀ b u, s.heap.get? b = some u → h'.get? b = some u) : Inv X pins σ H { s with heap := h', toks := t' } := I.un (Un.kept k) (I.hok.kept k)
/-- a new object laid and tracked -/
theorem Inv.laid {a : Addr} {o : HO} {t' : Nat} (I : Inv X pins σ H s) (k : ∀ b u, s.heap.get? b = some u → h'.get? b = some u) (hp : s.heap.objs.size ≤ a) (new : ObjOk X.prog X.w (upd H a o) h' a o) :
    Inv X pins σ (upd H a o) { s with heap := h', toks := t' } := I.un (Un.laid k hp (I.hok.fresh hp)) (I.hok.laid k hp new)
/-- an object written -/
theorem Inv.write {x e : Addr} {o : HO} {t' : Nat} (I : Inv X pins σ H s) (mu : Mut (H x)) (he : e = x ∨ H e = some (.own x)) (k : ∀ b u, b ≠ e → s.heap.get? b = some u → h'.get? b = some u) (heo : ∃ u, h'.get? e = some u)
    (new : ObjOk X.prog X.w (upd H x o) h' x o) : Inv X pins σ (upd H x o) { s with heap := h', toks := t' } := I.un (Un.write mu he k heo) (I.hok.write mu he k heo new)
theorem Inv.pins_of {pins' : List (Addr × Obj)} (I : Inv X pins σ H s) (h : ∀ p ∈ pins', s.heap.get? p.1 = some p.2 ∧ H p.1 = none ∧ p.1 ≠ X.env.locals ∧ p.1 ∉ X.fs ∧ ∀ v, p.2.data ≠ .cell v) : Inv X pins' σ H s :=
  ⟨I.ok, I.os, I.bare, I.base, I.loc, I.cell, I.free, I.freeC, fun p hp => (List.mem_append.mp hp).elim (fun z => I.pin p (List.mem_append_left _ z)) (h p), I.hok, I.len⟩

theorem nodup_ix {N : List Str} (hN : N.Nodup) {i j : Nat} {x : Str} (a : N[i]? = some x) (b : N[j]? = some x) : i = j := by
  obtain ⟨h1, e1⟩ := List.getElem?_eq_some_iff.mp a
  obtain ⟨h2, e2⟩ := List.getElem?_eq_some_iff.mp b
  exact (List.getElem_inj hN).mp (e1.trans e2.symm)

/-- a name is stored; what changed -/
theorem store_ok2 {M : Model} {A : Around} {E : Value → Shared → Prop} {i : Nat} {x : Str} {v : V} {u : Value} {Q : Unit → Shared → Prop} (I : Inv X pins σ H s) (hN : X.N.Nodup) (hi : X.N[i]? = some x) (hx : Loc X.env.scope x) (r : RelV v u)
    (h : ∀ s', Inv X pins (σ.set i (some v)) H s' → (∃ a, Heap.SameBut a s.heap s'.heap ∧ (a = X.env.locals ∨ X.env.cells.lookup x = some a)) → Q () s') (hf : X.fn x = true ∨ X.env.scope.names.lookup x = some .local := by first | exact .inl rfl | exact .inr rfl | assumption) : wpAny M A (storeName X.env x u) Q E s := by
  obtain ⟨m, hn, hl⟩ := id I.loc
  have hcls : (X.env.scope.kind == .class || (X.env.scope.kind == .module && X.env.locals != X.env.globals)) = false := by rw [I.ok.kind]; rfl
  have hiσ : i < σ.length := by rw [I.len]; exact (List.getElem?_eq_some_iff.mp hi).1
  have cne := I.cne
  have tracked : ∀ {a : Addr} {h' : Heap}, (∃ o, s.heap.get? a = some o ∧ H a = none) → Heap.SameBut a s.heap h' → HOk X.prog X.w H h' := fun {a h'} ha hs b ob e => by
    obtain ⟨_, _, hfree⟩ := ha
    refine (I.hok b ob e).stay (fun c w' hc q => (hs.2 c ?_).trans q) (fun _ q => q) fun _ _ q => q
    rintro rfl
    rcases hc with rfl | hc
    · rw [hfree] at e; cases e
    · rw [hfree] at hc; cases hc
  rcases hx with hk | hk
  · refine wpAny_storeName_local hk hn (fun h' hn' hs => ?_) hcls
    obtain ⟨oL, _, _, hoL, _⟩ := id hn
    refine h _ ⟨I.ok, I.os, I.bare, ⟨fun b o e n hb hx => ?_, fun b o e n hb hx => ?_, I.base.free, fun b o e hx => ?_, I.base.tups, I.base.frzs, I.base.tbls⟩, ⟨_, hn', fun j y v' e1 e2 e3 => ?_⟩, fun y c e => ?_, I.free, I.freeC, fun p hp => ?_, tracked ⟨oL, hoL, I.free⟩ hs, by simpa using I.len⟩ ⟨_, hs, .inl rfl⟩
    · exact (hs.2 b (Nat.ne_of_lt (Nat.lt_of_lt_of_le (Heap.lt_size e) I.ok.above))).trans (I.base.keep b o e n hb hx)
    · obtain ⟨sl, e1⟩ := I.base.slot b o e n hb hx
      exact ⟨sl, (hs.2 b (Nat.ne_of_lt (Nat.lt_of_lt_of_le (Heap.lt_size e) I.ok.above))).trans e1⟩
    · obtain ⟨o', e1⟩ := I.base.there b o e hx
      exact ⟨o', (hs.2 b (Nat.ne_of_lt (Nat.lt_of_lt_of_le (Heap.lt_size e) I.ok.above))).trans e1⟩
    · by_cases hj : j = i
      · subst hj
        rw [hi] at e1; cases e1
        rw [List.getElem?_set_self hiσ] at e2
        cases e2
        exact ⟨u, r, .inl ⟨hk, by simp⟩⟩
      · rw [List.getElem?_set_ne (Ne.symm hj)] at e2
        obtain ⟨u', r', q⟩ := hl j y v' e1 e2 e3
        refine ⟨u', r', ?_⟩
        rcases q with ⟨k, e⟩ | ⟨k, c, e, z⟩
        · refine .inl ⟨k, ?_⟩
          have : y ≠ x := fun e => hj (nodup_ix hN e1 (e ▸ hi))
          simp [this, e]
        · exact .inr ⟨k, c, e, z.sameBut hs (cne y c e)⟩
    · obtain ⟨w', z⟩ := I.cell y c e
      exact ⟨w', z.sameBut hs (cne y c e)⟩
    · obtain ⟨e, n, ne, nf, d⟩ := I.pin p hp
      exact ⟨(hs.2 p.1 ne).trans e, n, ne, nf, d⟩
  · have hfn : X.fn x = true := by
      rcases hf with z | z
      · exact z
      · rw [z] at hk; cases hk
    obtain ⟨c, hc⟩ := I.ok.has x (.inl hk)
    obtain ⟨w', z⟩ := I.cell x c hc
    refine wpAny_storeName_cell I.ok.kind hk hc z (fun h' hc' hs => ?_)
    obtain ⟨oc, hoc, hocd⟩ := id z
    refine h { s with heap := h' } ⟨I.ok, I.os, I.bare, ⟨fun b o e n hb hx => ?_, fun b o e n hb hx => ?_, I.base.free, fun b o e hx => ?_, I.base.tups, I.base.frzs, I.base.tbls⟩, ⟨m, hn.sameBut hs (Ne.symm (cne x c hc)), fun j y v' e1 e2 e3 => ?_⟩, fun y c' e => ?_, I.free, I.freeC, fun p hp => ?_, tracked ⟨oc, hoc, I.freeC x c hc⟩ hs, by simpa using I.len⟩ ⟨c, hs, .inr hc⟩
    · exact (hs.2 b (Nat.ne_of_lt (Nat.lt_of_lt_of_le (Heap.lt_size e) (I.ok.cab x c hfn hc)))).trans (I.base.keep b o e n hb hx)
    · obtain ⟨sl, e1⟩ := I.base.slot b o e n hb hx
      exact ⟨sl, (hs.2 b (Nat.ne_of_lt (Nat.lt_of_lt_of_le (Heap.lt_size e) (I.ok.cab x c hfn hc)))).trans e1⟩
    · obtain ⟨o', e1⟩ := I.base.there b o e hx
      exact ⟨o', (hs.2 b (Nat.ne_of_lt (Nat.lt_of_lt_of_le (Heap.lt_size e) (I.ok.cab x c hfn hc)))).trans e1⟩
    · by_cases hj : j = i
      · subst hj
        rw [hi] at e1; cases e1
        rw [List.getElem?_set_self hiσ] at e2
        cases e2
        exact ⟨u, r, .inr ⟨.inl hk, c, hc, hc'⟩⟩
      · rw [List.getElem?_set_ne (Ne.symm hj)] at e2
        obtain ⟨u', r', q⟩ := hl j y v' e1 e2 e3
        refine ⟨u', r', ?_⟩
        rcases q with q | ⟨k, c', e, z'⟩
        · exact .inl q
        · refine .inr ⟨k, c', e, z'.sameBut hs ?_⟩
          rintro rfl
          exact hj (nodup_ix hN e1 (I.ok.inj _ _ _ e hc ▸ hi))
    · by_cases hcc : c' = c
      · subst hcc; exact ⟨_, hc'⟩
      · obtain ⟨w2, z2⟩ := I.cell y c' e
        exact ⟨w2, z2.sameBut hs hcc⟩
    · obtain ⟨e, n, ne, nf, d⟩ := I.pin p hp
      refine ⟨(hs.2 p.1 ?_).trans e, n, ne, nf, d⟩
      intro q
      rw [q, hoc] at e
      have q' : oc = p.2 := Option.some.inj e
      exact d w' (by rw [← q']; exact hocd)
theorem store_ok {M : Model} {A : Around} {E : Value → Shared → Prop} {i : Nat} {x : Str} {v : V} {u : Value} {Q : Unit → Shared → Prop} (I : Inv X pins σ H s) (hN : X.N.Nodup) (hi : X.N[i]? = some x) (hx : Loc X.env.scope x) (r : RelV v u)
    (h : ∀ s', Inv X pins (σ.set i (some v)) H s' → Q () s') (hf : X.fn x = true ∨ X.env.scope.names.lookup x = some .local := by first | exact .inl rfl | exact .inr rfl | assumption) : wpAny M A (storeName X.env x u) Q E s :=
  store_ok2 I hN hi hx r (fun s' I' _ => h s' I') hf
/-- behind a call or a block, the state as it is -/
theorem Inv.call' {s' : Shared} {ch : List Addr} (I : Inv X pins σ H s) (ho : s'.os = s.os) (u : Un (frs X.stack) ch H H' s.heap s'.heap) (hok : HOk X.prog X.w H' s'.heap) (hg : AllBare s'.gens)
    (hch : ∀ b ∈ ch, (b ∈ X.ex ∨ X.s₀.heap.objs.size ≤ b) ∧ b ≠ X.env.locals ∧ (∀ x c, X.env.cells.lookup x = some c → c ≠ b) ∧ ∀ p ∈ X.pn ++ pins, p.1 ≠ b) : Inv X pins σ H' s' := by
  obtain ⟨h', g', d', t', o'⟩ := s'
  have e : o' = s.os := ho
  subst e
  exact I.call (g' := g') (t' := t') (d' := d') u hok hg hch
end

/-! ### the judgements -/
/-- an exception: its class, its own dict's address (where it has one), the abstract heap behind it -/
abbrev XK := Value → Option Addr → Hp → Prop
abbrev St := List (Option V)
abbrev VK := V → Hp → Prop
/-- an expression's reading; a test's; an argument list's -/
abbrev TE := St → Hp → VK → Prop
abbrev TT := St → Hp → (Bool → Hp → Prop) → Prop
abbrev TA := St → Hp → (List V → Hp → Prop) → Prop
/-- what is wanted behind a statement -/
structure Ends where
  nx : St → Hp → Prop
  rt : VK
  bk : St → Hp → Prop := fun _ _ => False
  ct : St → Hp → Prop := fun _ _ => False
abbrev TS := Ends → St → Hp → Prop

def EP (X : Cx) (pins : List (Addr × Obj)) (σ : St) (Q : VK) (u : Value) (s' : Shared) : Prop := ∃ v H', Inv X pins σ H' s' ∧ RelV v u ∧ Q v H'
def TP (X : Cx) (pins : List (Addr × Obj)) (σ : St) (Q : Bool → Hp → Prop) (b : Bool) (s' : Shared) : Prop := ∃ H', Inv X pins σ H' s' ∧ Q b H'
def AP (X : Cx) (pins : List (Addr × Obj)) (σ : St) (Q : List V → Hp → Prop) (us : List Value) (s' : Shared) : Prop := ∃ vs H', Inv X pins σ H' s' ∧ Vals vs us ∧ Q vs H'
def SP (X : Cx) (pins : List (Addr × Obj)) (D : Ends) (f : Flow) (s' : Shared) : Prop :=
  match f with
  | .next => ∃ σ' H', Inv X pins σ' H' s' ∧ D.nx σ' H'
  | .brk => ∃ σ' H', Inv X pins σ' H' s' ∧ D.bk σ' H'
  | .cont => ∃ σ' H', Inv X pins σ' H' s' ∧ D.ct σ' H'
  | .ret u => ∃ v σ' H', Inv X pins σ' H' s' ∧ RelV v u ∧ D.rt v H'

def PE (X : Cx) (e : Expr) (t : TE) : Prop :=
  ∀ (pins : List (Addr × Obj)) (s : Shared) (σ : St) (H : Hp) (Q : VK), Inv X pins σ H s → t σ H Q → wpAny (model X.prog X.w) X.A (eval e X.env) (EP X pins σ Q) X.xe s
def PT (X : Cx) (e : Expr) (t : TT) : Prop :=
  ∀ (pins : List (Addr × Obj)) (s : Shared) (σ : St) (H : Hp) (Q : Bool → Hp → Prop), Inv X pins σ H s → t σ H Q → wpAny (model X.prog X.w) X.A (isTrue e X.env (eval e X.env)) (TP X pins σ Q) X.xe s
/-- a test whatever its 'whole' is (and, or) -/
def PW (X : Cx) (e : Expr) (t : TT) : Prop :=
  ∀ (whole : Sem Value) (pins : List (Addr × Obj)) (s : Shared) (σ : St) (H : Hp) (Q : Bool → Hp → Prop), Inv X pins σ H s → t σ H Q → wpAny (model X.prog X.w) X.A (isTrue e X.env whole) (TP X pins σ Q) X.xe s
theorem PW.pt {X : Cx} {e : Expr} {t : TT} (h : PW X e t) : PT X e t := h _
/-- an argument list (no star), from the left -/
def PA (X : Cx) (es : List Expr) (t : TA) : Prop :=
  ∀ (pos : Pos) (pins : List (Addr × Obj)) (s : Shared) (σ : St) (H : Hp) (Q : List V → Hp → Prop), Inv X pins σ H s → t σ H Q → wpAny (model X.prog X.w) X.A (spliced (backTo pos (starEach es X.env))) (AP X pins σ Q) X.xe s
def PS (X : Cx) (st : Stmt) (t : TS) : Prop :=
  ∀ (pins : List (Addr × Obj)) (s : Shared) (σ : St) (H : Hp) (D : Ends), Inv X pins σ H s → t D σ H → wpAny (model X.prog X.w) X.A (exec st X.env) (SP X pins D) X.xe s
def PSs (X : Cx) (st : List Stmt) (t : TS) : Prop :=
  ∀ (pins : List (Addr × Obj)) (s : Shared) (σ : St) (H : Hp) (D : Ends), Inv X pins σ H s → t D σ H → wpAny (model X.prog X.w) X.A (execs st X.env) (SP X pins D) X.xe s
/-- weaken the end -/
theorem thn {α : Type} {t : Sem α} {Q Q' : α → Shared → Prop} {M : Model} {A : Around} {E : Value → Shared → Prop} {s : Shared} (h : wpAny M A t Q E s) (hQ : ∀ a s, Q a s → Q' a s) : wpAny M A t Q' E s := wpAny_mono h hQ fun _ _ x => x
end L2

namespace L2
open PySem PySem.Spec PyProof.Rows
section
variable {X : Cx}

/-- two expressions in a row -/
theorem bin {a b : Expr} {ta tb : TE} (ha : PE X a ta) (hb : PE X b tb) {pins : List (Addr × Obj)} {s : Shared} {σ : St} {H : Hp} {R : V → V → Hp → Prop} (I : Inv X pins σ H s) (h : ta σ H fun x H1 => tb σ H1 fun y H2 => R x y H2)
    {α : Type} {Q : α → Shared → Prop} {f : Value → Value → Sem α}
    (hf : ∀ v u s2 x y H2, Inv X pins σ H2 s2 → RelV x v → RelV y u → R x y H2 → wpAny (model X.prog X.w) X.A (f v u) Q X.xe s2) :
    wpAny (model X.prog X.w) X.A (eval a X.env) (fun v s₁ => wpAny (model X.prog X.w) X.A (eval b X.env) (fun u s₂ => wpAny (model X.prog X.w) X.A (f v u) Q X.xe s₂) X.xe s₁) X.xe s := by
  refine thn (ha pins s σ H _ I h) fun v s1 ⟨x, H1, I1, r1, q1⟩ => ?_
  refine thn (hb pins s1 σ H1 _ I1 q1) fun u s2 ⟨y, H2, I2, r2, q2⟩ => ?_
  exact hf v u s2 x y H2 I2 r1 r2 q2

/-! ### names and constants -/
def tVar (i : Nat) : TE := fun σ H Q => ∃ v, σ[i]? = some (some v) ∧ Q v H
def tC (v : V) : TE := fun _ H Q => Q v H
theorem pe_var {i : Nat} {x : Str} {pos : Pos} (hN : X.N[i]? = some x) (hv : Vis X.env.scope x) (hd : (x == ("__debug__" : Str)) = false := by decide) (hcd : (x == ("__classdict__" : Str)) = false := by decide) : PE X (.Name x pos) (tVar i) := by
  intro pins s σ H Q I h
  obtain ⟨v, e, h⟩ := h
  obtain ⟨m, hn, hl⟩ := I.loc
  obtain ⟨u, r, l⟩ := hl i x v hN e hv
  have fin : EP X pins σ Q u s := ⟨v, H, I, r, h⟩
  rcases l with ⟨hk, hm⟩ | ⟨hk, c, hc, hcell⟩
  · exact wpAny_Name (wpAny_loadName_local I.ok.kind hk hn hm fin) hd
  · rcases hk with hk | hk
    · exact wpAny_Name (wpAny_loadName_cell I.ok.kind hk hc hcell fin) hd
    · exact wpAny_Name (wpAny_loadName_free I.ok.kind hk hc hcell fin hcd) hd
theorem pe_int {i j pos} : PE X (.Constant (.int i) j pos) (tC (.int i)) := fun _ _ _ H _ I h => wpAny_Constant_int ⟨.int i, H, I.tok _, ⟨_, rfl⟩, h⟩
theorem pe_bl {b j pos} : PE X (.Constant (.bool b) j pos) (tC (.bl b)) := fun _ _ _ H _ I h => Constant_bool ⟨.bl b, H, I, rfl, h⟩
theorem pe_non {j pos} : PE X (.Constant .none j pos) (tC .non) := fun _ _ _ H _ I h => Constant_none ⟨.non, H, I, rfl, h⟩
theorem pe_str {x j pos} : PE X (.Constant (.str x) j pos) (tC (.str x)) := fun _ _ _ H _ I h => Calls.Constant_str ⟨.str x, H, I.tok _, ⟨_, rfl⟩, h⟩

/-- a global name of the def -/
def Gl (X : Cx) (x : Str) : Prop := X.env.kindOf x = some .globalImplicit
theorem ld_glob {E : Value → Shared → Prop} {pins : List (Addr × Obj)} {s : Shared} {σ : St} {H : Hp} {x : Str} {u : Value} {pos : Pos} {Q : Value → Shared → Prop} (I : Inv X pins σ H s) (hg : Gl X x) (hm : X.mg x = some u) (h : Q u s)
    (hd : (x == ("__debug__" : Str)) = false := by decide) : wpAny (model X.prog X.w) X.A (eval (.Name x pos) X.env) Q E s :=
  Calls.Name_function_global I.ok.kind hg (Calls.loadGlobal_global (by rw [I.ok.glob]; exact I.mod.glob.keeps I.bk) hm h) hd
theorem ld_blt {E : Value → Shared → Prop} {pins : List (Addr × Obj)} {s : Shared} {σ : St} {H : Hp} {x : Str} {u : Value} {pos : Pos} {Q : Value → Shared → Prop} (I : Inv X pins σ H s) (hg : Gl X x) (hm : X.mg x = none) (hv : bootBuiltins x = some u) (h : Q u s)
    (hn : x ≠ "__name__" := by decide) (hd : (x == ("__debug__" : Str)) = false := by decide) : wpAny (model X.prog X.w) X.A (eval (.Name x pos) X.env) Q E s := by
  obtain ⟨mb, h1, h2⟩ := I.mod.blt
  exact Calls.Name_function_global I.ok.kind hg (Calls.loadGlobal_builtin (by rw [I.ok.glob]; exact I.mod.glob.keeps I.bk) hm (by rw [I.ok.blt]; exact h1.keeps I.bk) ((h2 x hn).trans hv) h) hd
/-! ### arithmetic -/
/-- two ints -/
def t2I (ta tb : TE) (k : Int → Int → Hp → Prop) : St → Hp → Prop := fun σ H => ta σ H fun x H1 => tb σ H1 fun y H2 => ∃ i j, x = .int i ∧ y = .int j ∧ k i j H2
def tAdd (ta tb : TE) : TE := fun σ H Q => t2I ta tb (fun i j H2 => Q (.int (i + j)) H2) σ H
def tSub (ta tb : TE) : TE := fun σ H Q => t2I ta tb (fun i j H2 => Q (.int (i - j)) H2) σ H
/-- the left factor below 2^64 -/
def tMul (ta tb : TE) : TE := fun σ H Q => t2I ta tb (fun i j H2 => (-(2 ^ 64) < i ∧ i < 2 ^ 64) ∧ Q (.int (i * j)) H2) σ H
variable {a b : Expr} {ta tb : TE} {pos : Pos}
/-! ### comparisons -/
def PC (X : Cx) (op : CmpOp) (a b : Expr) (t : TE) : Prop :=
  ∀ (pins : List (Addr × Obj)) (s : Shared) (σ : St) (H : Hp) (Q : VK), Inv X pins σ H s → t σ H Q →
    wpAny (model X.prog X.w) X.A (eval a X.env) (fun v s₁ => wpAny (model X.prog X.w) X.A (eval b X.env) (fun u s₂ => wpAny (model X.prog X.w) X.A (compareOp op v u) (EP X pins σ Q) X.xe s₂) X.xe s₁) X.xe s
def tCmp (p : Int → Int → Bool) (ta tb : TE) : TE := fun σ H Q => t2I ta tb (fun i j H2 => Q (.bl (p i j)) H2) σ H
abbrev tLt : TE → TE → TE := tCmp fun i j => decide (i < j)
abbrev tLe : TE → TE → TE := tCmp fun i j => decide (i ≤ j)
abbrev tGt : TE → TE → TE := tCmp fun i j => decide (j < i)
abbrev tGe : TE → TE → TE := tCmp fun i j => decide (j ≤ i)
abbrev tEqI : TE → TE → TE := tCmp fun i j => decide (i = j)
abbrev tNeI : TE → TE → TE := tCmp fun i j => !decide (i = j)
/-- is None -/
def tIsN (ta : TE) : TE := fun σ H Q => ta σ H fun x H1 => Q (.bl (decide (x = .non))) H1
def tNotN (ta : TE) : TE := fun σ H Q => ta σ H fun x H1 => Q (.bl (!decide (x = .non))) H1
/-- a comparison as a value, as a test -/
def tB (t : TE) : TT := fun σ H Q => t σ H fun x H1 => ∃ c, x = .bl c ∧ Q c H1
/-! ### and, or, not -/
variable {tA tB' : TT} {rest : List Expr}
def tAnd (t u : TT) : TT := fun σ H Q => t σ H fun c H1 => if c = true then u σ H1 Q else Q false H1
def tOr (t u : TT) : TT := fun σ H Q => t σ H fun c H1 => if c = true then Q true H1 else u σ H1 Q
def tNot (t : TT) : TT := fun σ H Q => t σ H fun c H1 => Q (!c) H1
theorem pw_or1 (ha : PT X a tA) : PW X (.BoolOp .Or [a] pos) tA := by
  intro wh pins s σ H Q I h
  refine isTrue_or (thn (ha pins s σ H Q I h) fun c s1 e => ?_)
  cases c with
  | false => exact isTrue_or_nil e
  | true => exact e
theorem pw_or (ha : PT X a tA) (hb : PW X (.BoolOp .Or (b :: rest) pos) tB') : PW X (.BoolOp .Or (a :: b :: rest) pos) (tOr tA tB') := by
  intro wh pins s σ H Q I h
  refine isTrue_or (thn (ha pins s σ H _ I h) fun c s1 ⟨H1, I1, q1⟩ => ?_)
  cases c with
  | true => exact ⟨H1, I1, q1⟩
  | false => exact hb wh pins s1 σ H1 Q I1 q1
/-- .. as values (bools) -/
def tAndV (ta tb : TE) : TE := fun σ H Q => ta σ H fun x H1 => ∃ c, x = .bl c ∧ if c = true then tb σ H1 Q else Q (.bl false) H1
def tOrV (ta tb : TE) : TE := fun σ H Q => ta σ H fun x H1 => ∃ c, x = .bl c ∧ if c = true then Q (.bl true) H1 else tb σ H1 Q
def tNotV (ta : TE) : TE := fun σ H Q => ta σ H fun x H1 => ∃ c, x = .bl c ∧ Q (.bl (!c)) H1
theorem pe_one {op} {t : TE} (h : PE X a t) : PE X (.BoolOp op [a] pos) t := fun pins s σ H Q I hw => BoolOp_one (h pins s σ H Q I hw)
theorem pe_and (ha : PE X a ta) (hb : PE X (.BoolOp .And (b :: rest) pos) tb) : PE X (.BoolOp .And (a :: b :: rest) pos) (tAndV ta tb) := by
  intro pins s σ H Q I h
  refine BoolOp_and (thn (ha pins s σ H _ I h) fun v s1 ⟨x, H1, I1, r1, q1⟩ => ?_)
  obtain ⟨c, rfl, q1⟩ := q1
  cases r1
  refine wpAny_truthy_bool ?_
  cases c with
  | true => exact hb pins s1 σ H1 Q I1 q1
  | false => exact ⟨.bl false, H1, I1, rfl, q1⟩
theorem pe_or (ha : PE X a ta) (hb : PE X (.BoolOp .Or (b :: rest) pos) tb) : PE X (.BoolOp .Or (a :: b :: rest) pos) (tOrV ta tb) := by
  intro pins s σ H Q I h
  refine BoolOp_or (thn (ha pins s σ H _ I h) fun v s1 ⟨x, H1, I1, r1, q1⟩ => ?_)
  obtain ⟨c, rfl, q1⟩ := q1
  cases r1
  refine wpAny_truthy_bool ?_
  cases c with
  | false => exact hb pins s1 σ H1 Q I1 q1
  | true => exact ⟨.bl true, H1, I1, rfl, q1⟩
theorem pe_not (ha : PE X a ta) : PE X (.UnaryOp .Not a pos) (tNotV ta) := by
  intro pins s σ H Q I h
  refine UnaryOp_ (thn (ha pins s σ H _ I h) fun v s1 ⟨x, H1, I1, r1, q1⟩ => ?_)
  obtain ⟨c, rfl, q1⟩ := q1
  cases r1
  exact not_of (wpAny_truthy_bool ⟨.bl (!c), H1, I1, rfl, q1⟩)
/-- a if t else b -/
def tIf (t : TT) (ta tb : TE) : TE := fun σ H Q => t σ H fun c H1 => if c = true then ta σ H1 Q else tb σ H1 Q
theorem pe_ifExp {c : Expr} (hc : PT X c tA) (ha : PE X a ta) (hb : PE X b tb) : PE X (.IfExp c a b pos) (tIf tA ta tb) := by
  intro pins s σ H Q I h
  refine wpAny_IfExp (thn (hc pins s σ H _ I h) fun d s1 ⟨H1, I1, q1⟩ => ?_)
  cases d with
  | true => exact ha pins s1 σ H1 Q I1 q1
  | false => exact hb pins s1 σ H1 Q I1 q1
end
end L2

namespace L2
open PySem PySem.Spec PyProof.Rows

/-! ### a list, a tuple that is read: tracked, frozen, or an object of the module -/
def SqL (K : PySem.W.Frag) (H : Hp) (a : Addr) (xs : List V) : Prop :=
  Rd H a (.lst xs) ∨
    ∃ (o : Obj) (its : Array Value) (n : Nat), K.lookup a = some o ∧ o.cls = .type "list" ∧ o.dict = none ∧ o.data = .seq its n ∧ its.size ≤ sizeLine ∧ Vals xs its.toList
def SqT (K : PySem.W.Frag) (H : Hp) (a : Addr) (xs : List V) : Prop :=
  Rd H a (.tup xs) ∨
    ∃ (o : Obj) (its : Array Value) (n : Nat), K.lookup a = some o ∧ o.cls = .type "tuple" ∧ o.data = .seq its n ∧ its.size ≤ sizeLine ∧ Vals xs its.toList
def absV : Value → Option V
  | .none => some .non
  | .bool b => some (.bl b)
  | .int i _ => some (.int i)
  | .str x _ => some (.str x)
  | .bytes b _ => some (.byt b)
  | .float b _ => some (.flt b)
  | .ref a => some (.ref a)
  | .type n => some (.ty n)
  | _ => none
theorem RelV.abs {x : V} {u : Value} (r : RelV x u) : absV u = some x := by
  cases x with
  | non => cases r; rfl
  | bl _ => cases r; rfl
  | int _ => obtain ⟨t, rfl⟩ := r; rfl
  | str _ => obtain ⟨t, rfl⟩ := r; rfl
  | byt _ => obtain ⟨t, rfl⟩ := r; rfl
  | flt _ => obtain ⟨t, rfl⟩ := r; rfl
  | ref _ => cases r; rfl
  | ty _ => cases r; rfl
theorem RelV.inj {x y : V} {u : Value} (r : RelV x u) (q : RelV y u) : x = y := Option.some.inj (r.abs.symm.trans q.abs)
theorem Vals.inj : ∀ {xs ys : List V} {us : List Value}, Vals xs us → Vals ys us → xs = ys
  | _, _, _, .nil, .nil => rfl
  | _, _, _, .cons r t, .cons r' t' => by rw [r.inj r', Vals.inj t t']
section
variable {X : Cx} {pins : List (Addr × Obj)} {σ : St} {H : Hp} {s : Shared} {a : Addr} {xs ys : List V}
theorem SqL.of {K : PySem.W.Frag} (h : H a = some (.lst xs)) : SqL K H a xs := .inl (.inl h)
theorem SqT.of {K : PySem.W.Frag} (h : H a = some (.tup xs)) : SqT K H a xs := .inl (.inl h)
theorem Inv.list (I : Inv X pins σ H s) (h : SqL X.K H a xs) : ∃ its : List Value, Vals xs its ∧ PlainL s.heap a its.toArray ∧ xs.length ≤ sizeLine := by
  rcases h with h | ⟨o, its, n, hk, hc, hd, hs, hz, r⟩
  · obtain ⟨z, its, n, r, e⟩ := h.ok I.hok
    exact ⟨its, r, ⟨_, n, e, rfl, rfl, rfl⟩, z⟩
  · refine ⟨its.toList, r, ⟨o, n, I.kIn a o hk, hc, hd, by simpa using hs⟩, ?_⟩
    have e := r.length
    simp only [Array.length_toList] at e
    omega
theorem Inv.tuple (I : Inv X pins σ H s) (h : SqT X.K H a xs) : ∃ its : List Value, Vals xs its ∧ IsTup s.heap a its.toArray ∧ xs.length ≤ sizeLine := by
  rcases h with h | ⟨o, its, n, hk, hc, hs, hz, r⟩
  · obtain ⟨z, its, r, p⟩ := h.ok I.hok
    exact ⟨its, r, p, z⟩
  · refine ⟨its.toList, r, ⟨o, I.kIn a o hk, hc, n, by simpa using hs⟩, ?_⟩
    have e := r.length
    simp only [Array.length_toList] at e
    omega
theorem Inv.list_inj (I : Inv X pins σ H s) (h : SqL X.K H a xs) (h' : SqL X.K H a ys) : xs = ys := by
  obtain ⟨its, r, ⟨o, n, e, _, _, d⟩, _⟩ := I.list h
  obtain ⟨its', r', ⟨o', n', e', _, _, d'⟩, _⟩ := I.list h'
  rw [e] at e'; cases e'
  rw [d] at d'
  injection d' with d1 _
  have : its = its' := by simpa using congrArg Array.toList d1
  subst this
  exact r.inj r'
theorem Inv.tuple_inj (I : Inv X pins σ H s) (h : SqT X.K H a xs) (h' : SqT X.K H a ys) : xs = ys := by
  obtain ⟨its, r, ⟨o, e, _, n, d⟩, _⟩ := I.tuple h
  obtain ⟨its', r', ⟨o', e', _, n', d'⟩, _⟩ := I.tuple h'
  rw [e] at e'; cases e'
  rw [d] at d'
  injection d' with d1 _
  have : its = its' := by simpa using congrArg Array.toList d1
  subst this
  exact r.inj r'
end

/-! ### another wish about exceptions -/
abbrev Cx.wish (X : Cx) (E : Value → Shared → Prop) : Cx := { X with xe := E }
/-- no exception leaves -/
abbrev Cx.nox (X : Cx) : Cx := X.wish fun _ _ => False
theorem Cx.Ok.wish {X : Cx} (ok : X.Ok) (E : Value → Shared → Prop) : (X.wish E).Ok :=
  ⟨ok.mod, ok.kind, ok.glob, ok.blt, ok.above, ok.inj, ok.has, ok.cab, ok.hd, ok.frames, ok.stk, ok.exf, ok.bs, ok.bsz, ok.noex, ok.exfs, ok.funs, ok.frf⟩
theorem Cx.Ok.unwish {X : Cx} {E : Value → Shared → Prop} (ok : (X.wish E).Ok) : X.Ok :=
  ⟨ok.mod, ok.kind, ok.glob, ok.blt, ok.above, ok.inj, ok.has, ok.cab, ok.hd, ok.frames, ok.stk, ok.exf, ok.bs, ok.bsz, ok.noex, ok.exfs, ok.funs, ok.frf⟩
section
variable {X : Cx} {pins : List (Addr × Obj)} {σ : St} {H : Hp} {s : Shared} {E : Value → Shared → Prop}
theorem Inv.wish (I : Inv X pins σ H s) (E : Value → Shared → Prop) : Inv (X.wish E) pins σ H s := ⟨I.ok.wish E, I.os, I.bare, I.base, I.loc, I.cell, I.free, I.freeC, I.pin, I.hok, I.len⟩
theorem Inv.unwish (I : Inv (X.wish E) pins σ H s) : Inv X pins σ H s := ⟨I.ok.unwish, I.os, I.bare, I.base, I.loc, I.cell, I.free, I.freeC, I.pin, I.hok, I.len⟩
theorem SP.unwish {D : Ends} {f : Flow} {s' : Shared} (h : SP (X.wish E) pins D f s') : SP X pins D f s' := by
  cases f with
  | next => obtain ⟨σ', H', I, q⟩ := h; exact ⟨σ', H', I.unwish, q⟩
  | brk => obtain ⟨σ', H', I, q⟩ := h; exact ⟨σ', H', I.unwish, q⟩
  | cont => obtain ⟨σ', H', I, q⟩ := h; exact ⟨σ', H', I.unwish, q⟩
  | ret u => obtain ⟨v, σ', H', I, r, q⟩ := h; exact ⟨v, σ', H', I.unwish, r, q⟩
theorem PE.nox {e : Expr} {t : TE} (h : PE X.nox e t) : PE X e t := fun pins s σ H Q I hw =>
  wpAny_mono (h pins s σ H Q (I.wish _) hw) (fun _ _ ⟨v, H', I', r, q⟩ => ⟨v, H', I'.unwish, r, q⟩) fun _ _ z => False.elim z
theorem PT.nox {e : Expr} {t : TT} (h : PT X.nox e t) : PT X e t := fun pins s σ H Q I hw =>
  wpAny_mono (h pins s σ H Q (I.wish _) hw) (fun _ _ ⟨H', I', q⟩ => ⟨H', I'.unwish, q⟩) fun _ _ z => False.elim z
theorem PSs.nox {st : List Stmt} {t : TS} (h : PSs X.nox st t) : PSs X st t := fun pins s σ H D I hw =>
  wpAny_mono (h pins s σ H D (I.wish _) hw) (fun _ _ q => q.unwish) fun _ _ z => False.elim z
end

/-! ### blocks and small statements -/
section
variable {X : Cx} {st : Stmt} {rest : List Stmt} {t u : TS} {e : Expr} {te : TE} {pos : Pos}
def tNext : TS := fun D σ H => D.nx σ H
def tSeq (t u : TS) : TS := fun D σ H => t { D with nx := u D } σ H
theorem pss_nil : PSs X [] tNext := fun _ _ σ H _ I h => wpAny_execs_nil ⟨σ, H, I, h⟩
theorem pss_cons (h1 : PS X st t) (h2 : PSs X rest u) : PSs X (st :: rest) (tSeq t u) := by
  intro pins s σ H D I h
  refine wpAny_execs_cons (thn (h1 pins s σ H { D with nx := u D } I h) fun f s1 q => ?_)
  cases f with
  | next =>
    obtain ⟨σ', H', I', q⟩ := q
    exact h2 pins s1 σ' H' D I' q
  | ret v => exact q
  | brk => exact q
  | cont => exact q
theorem pss_one (h1 : PS X st t) : PSs X [st] t := by
  intro pins s σ H D I h
  refine wpAny_execs_cons (thn (h1 pins s σ H D I h) fun f s1 q => ?_)
  cases f with
  | next => exact wpAny_execs_nil q
  | ret v => exact q
  | brk => exact q
  | cont => exact q
def tBreak : TS := fun D σ H => D.bk σ H
def tCont : TS := fun D σ H => D.ct σ H
/-- in a def's body nothing is shown -/
theorem Inv.quiet {pins : List (Addr × Obj)} {σ : St} {H : Hp} {s : Shared} (I : Inv X pins σ H s) : interactive X.env = false := by simp [interactive, I.ok.kind]
/-- an expression whose value is dropped -/
def tDrop (te : TE) : TS := fun D σ H => te σ H fun _ H1 => D.nx σ H1
theorem ps_expr (he : PE X e te) (hs : swapsWith e none pos.line X.env = pure false := by rfl) : PS X (.Expr e pos) (tDrop te) := by
  intro pins s σ H D I h
  exact wpAny_Expr_any (thn (he pins s σ H _ I h) fun v s1 ⟨x, H1, I1, r1, q1⟩ => ⟨σ, H1, I1, q1⟩) I.quiet hs
def tRet (te : TE) : TS := fun D σ H => te σ H D.rt
theorem ps_ret (he : PE X e te) : PS X (.Return (some e) pos) (tRet te) := by
  intro pins s σ H D I h
  exact wpAny_Return_some (thn (he pins s σ H _ I h) fun v s1 ⟨x, H1, I1, r1, q1⟩ => ⟨x, σ, H1, I1, r1, q1⟩)
def tRetN : TS := fun D _ H => D.rt .non H
def tIfS (c : TT) (t u : TS) : TS := fun D σ H => c σ H fun b H1 => if b = true then t D σ H1 else u D σ H1
theorem ps_if {c : Expr} {a b : List Stmt} {tc : TT} (hc : PT X c tc) (ha : PSs X a t) (hb : PSs X b u) : PS X (.If c a b pos) (tIfS tc t u) := by
  intro pins s σ H D I h
  refine wpAny_If (thn (hc pins s σ H _ I h) fun d s1 ⟨H1, I1, q1⟩ => ?_)
  cases d with
  | true => exact ha pins s1 σ H1 D I1 q1
  | false => exact hb pins s1 σ H1 D I1 q1
/-- code that the proof never comes to -/
def tNever : TS := fun _ _ _ => False
theorem ps_never : PS X st tNever := fun _ _ _ _ _ _ h => h.elim
end

/-! ### targets -/
abbrev TG := V → St → Hp → (St → Hp → Prop) → Prop
abbrev TGs := List V → St → Hp → (St → Hp → Prop) → Prop
def PG (X : Cx) (target : Expr) (t : TG) : Prop :=
  ∀ (pins : List (Addr × Obj)) (s : Shared) (σ : St) (H : Hp) (v : V) (u : Value) (Q : St → Hp → Prop), Inv X pins σ H s → RelV v u → t v σ H Q →
    wpAny (model X.prog X.w) X.A (assign target X.env u) (fun _ s' => ∃ σ' H', Inv X pins σ' H' s' ∧ Q σ' H') X.xe s
/-- several targets, one after another -/
def PGs (X : Cx) (ts : List Expr) (t : TGs) : Prop :=
  ∀ (pins : List (Addr × Obj)) (s : Shared) (σ : St) (H : Hp) (vs : List V) (us : List Value) (Q : St → Hp → Prop), Inv X pins σ H s → Vals vs us → t vs σ H Q →
    wpAny (model X.prog X.w) X.A (assignInOrder ((assignEach ts X.env).map (·.2)) us) (fun _ s' => ∃ σ' H', Inv X pins σ' H' s' ∧ Q σ' H') X.xe s
/-- o[i] = v, by values -/
abbrev TSet := V → V → V → Hp → (Hp → Prop) → Prop
def PSet (X : Cx) (t : TSet) : Prop :=
  ∀ (pins : List (Addr × Obj)) (s : Shared) (σ : St) (H : Hp) (o i v : V) (ov iv u : Value) (Q : Hp → Prop), Inv X pins σ H s → RelV o ov → RelV i iv → RelV v u → t o i v H Q →
    wpAny (model X.prog X.w) X.A (setItem ov iv u) (fun _ s' => ∃ H', Inv X pins σ H' s' ∧ Q H') X.xe s
/-- a op= b, by values -/
abbrev TIp := V → V → Hp → VK → Prop
def PIp (X : Cx) (op : Operator) (t : TIp) : Prop :=
  ∀ (pins : List (Addr × Obj)) (s : Shared) (σ : St) (H : Hp) (x y : V) (v u : Value) (Q : VK), Inv X pins σ H s → RelV x v → RelV y u → t x y H Q →
    wpAny (model X.prog X.w) X.A (inplaceOp op v u) (EP X pins σ Q) X.xe s
section
variable {X : Cx} {pos : Pos}
def gName (i : Nat) : TG := fun v σ H Q => Q (σ.set i (some v)) H
theorem pg_name {i : Nat} {x : Str} (hN : X.N.Nodup) (hi : X.N[i]? = some x) (hx : Loc X.env.scope x) (hf : X.fn x = true ∨ X.env.scope.names.lookup x = some .local := by first | exact .inl rfl | exact .inr rfl | assumption) : PG X (.Name x pos) (gName i) := by
  intro pins s σ H v u Q I r h
  exact wpAny_assign_Name (store_ok I hN hi hx r (fun s' I' => ⟨_, H, I', h⟩) hf)
def gNil : TGs := fun vs σ H Q => vs = [] ∧ Q σ H
def gCons (t : TG) (u : TGs) : TGs := fun vs σ H Q => ∃ v r, vs = v :: r ∧ t v σ H fun σ' H' => u r σ' H' Q
theorem pgs_nil : PGs X [] gNil := by
  intro pins s σ H vs us Q I r h
  obtain ⟨e, h⟩ := h
  subst e
  cases r
  exact assignInOrder_nil ⟨σ, H, I, h⟩
theorem pgs_cons {e : Expr} {es : List Expr} {t : TG} {u : TGs} (h1 : PG X e t) (h2 : PGs X es u)
    (hs : (assignEach (e :: es) X.env).map (·.2) = assign e X.env :: (assignEach es X.env).map (·.2) := by rfl) : PGs X (e :: es) (gCons t u) := by
  intro pins s σ H vs us Q I r h
  obtain ⟨v, vr, e1, h⟩ := h
  subst e1
  cases r with
  | cons r rr =>
    rw [hs]
    refine assignInOrder_cons (thn (h1 pins s σ H _ _ _ I r h) fun _ s1 ⟨σ1, H1, I1, q1⟩ => ?_)
    exact h2 pins s1 σ1 H1 _ _ Q I1 rr q1
/-- (a, b, ..) = a tuple of that length -/
def gTup (K : PySem.W.Frag) (n : Nat) (t : TGs) : TG := fun v σ H Q => ∃ a xs, v = .ref a ∧ SqT K H a xs ∧ xs.length = n ∧ t xs σ H Q
theorem pg_tup {es : List Expr} {k : Nat} {t : TGs} {n : Nat} (hc : X.calm = true) (h : PGs X es t)
    (hn : (assignEach es X.env).length = n := by rfl) (hst : (assignEach es X.env).findIdx? (·.1) = none := by rfl) : PG X (.Tuple es k pos) (gTup X.K n t) := by
  intro pins s σ H v u Q I r hw
  obtain ⟨a, xs, e1, hq, hl, hw⟩ := hw
  subst e1
  cases r
  obtain ⟨its, rv, ht, hz⟩ := I.tuple hq
  refine assign_Tuple_tuple (I.ok.hd hc) ht (by simp [hn, ← hl, rv.length]) hst fun h' hx => ?_
  have I1 : Inv X pins σ H { s with heap := h' } := I.kept (t' := s.toks) fun b o e => hx b o (Nat.ne_of_lt (Heap.lt_size e)) e
  exact h pins _ σ H xs _ Q I1 (by simpa using rv) hw
/-- o[i] = .. -/
def gSub (to ti : TE) (t : TSet) : TG := fun v σ H Q => to σ H fun o H1 => ti σ H1 fun i H2 => t o i v H2 fun H3 => Q σ H3
theorem pg_sub {o i : Expr} {to ti : TE} {t : TSet} (ho : PE X o to) (hi : PE X i ti) (hs : PSet X t)
    (ha : ∀ v, assign (.Subscript o i pos) X.env v = (do
      let ov ← holding [v] (eval o X.env)
      let iv ← holding [v, ov] (eval i X.env)
      standAt pos
      holding [v, ov, iv] (setItem ov iv v)
      release [v, ov, iv] []) := by intro _; rfl) : PG X (.Subscript o i pos) (gSub to ti t) := by
  intro pins s σ H v u Q I r h
  rw [ha]
  refine wpAny_bind (wpAny_holding (thn (ho pins s σ H _ I h) fun ov s1 ⟨x, H1, I1, r1, q1⟩ => ?_))
  refine wpAny_bind (wpAny_holding (thn (hi pins s1 σ H1 _ I1 q1) fun iv s2 ⟨y, H2, I2, r2, q2⟩ => ?_))
  refine wpAny_bind (wpAny_standAt (wpAny_bind (wpAny_holding (thn (hs pins s2 σ H2 x y v ov iv u _ I2 r1 r2 r q2) fun _ s3 ⟨H3, I3, q3⟩ => ?_))))
  exact wpAny_release ⟨σ, H3, I3, q3⟩
/-- target = value -/
def tAsg (te : TE) (g : TG) : TS := fun D σ H => te σ H fun x H1 => g x σ H1 D.nx
theorem ps_asg {tg e : Expr} {te : TE} {g : TG} (he : PE X e te) (hg : PG X tg g) (hs : swapsWithSole [tg] e pos.line X.env = pure false := by rfl) (hw : swappedStores [tg] e X.env = pure none := by rfl)
    (h1 : (assignEach [tg] X.env).map (·.2) = [assign tg X.env] := by rfl) : PS X (.Assign [tg] e pos) (tAsg te g) := by
  intro pins s σ H D I h
  refine wpAny_Assign_stores (thn (he pins s σ H _ I h) fun v s1 ⟨x, H1, I1, r1, q1⟩ => ?_) hs hw
  rw [h1]
  exact thn (hg pins s1 σ H1 x v _ I1 r1 q1) fun _ s2 q => q
/-- name = value -/
theorem ps_set {i : Nat} {x : Str} {e : Expr} {te : TE} {pos' : Pos} (hN : X.N.Nodup) (hi : X.N[i]? = some x) (hx : Loc X.env.scope x) (he : PE X e te) (hs : swapsWith e (some (.Name x pos')) pos.line X.env = pure false := by rfl) (hf : X.fn x = true ∨ X.env.scope.names.lookup x = some .local := by first | exact .inl rfl | exact .inr rfl | assumption) :
    PS X (.Assign [.Name x pos'] e pos) (tAsg te (gName i)) := by
  intro pins s σ H D I h
  refine wpAny_Assign_Name (thn (he pins s σ H _ I h) fun v s1 ⟨y, H1, I1, r1, q1⟩ => ?_) hs
  exact store_ok I1 hN hi hx r1 (fun s2 I2 => ⟨_, H1, I2, q1⟩) hf
/-- a, b = x, y with plain local names: stored from the right; the pair itself is not tracked (the opening rows as in PyProof/Rows/TupAssign.lean:23) -/
def tPar (i j : Nat) (ta : TA) : TS := fun D σ H => ta σ H fun vs H1 => ∃ v w, vs = [v, w] ∧ D.nx ((σ.set i (some v)).set j (some w)) H1
theorem ps_par {i j : Nat} {x y : Str} {a b : Expr} {ta : TA} {px py pt : Pos} {kt k2 pt2} (hc : X.calm = true) (hN : X.N.Nodup) (hi : X.N[i]? = some x) (hj : X.N[j]? = some y) (hij : i ≠ j)
    (hx : X.env.scope.names.lookup x = some .local) (hy : X.env.scope.names.lookup y = some .local) (ha : PA X [a, b] ta)
    (hw : swappedStores [.Tuple [.Name x px, .Name y py] kt pt] (.Tuple [a, b] k2 pt2) X.env = pure (some [x, y]))
    (hs : swapsWithSole [.Tuple [.Name x px, .Name y py] kt pt] (.Tuple [a, b] k2 pt2) pos.line X.env = pure false := by rfl) :
    PS X (.Assign [.Tuple [.Name x px, .Name y py] kt pt] (.Tuple [a, b] k2 pt2) pos) (tPar i j ta) := by
  intro pins s σ H D I h
  rw [exec_Assign_arm]
  refine wpAny_bind (wpAny_standAt ?_)
  rw [hs]
  refine wpAny_bind (wpAny_pure ?_)
  rw [if_neg (by decide)]
  refine wpAny_bind (Tuple_ (thn (ha _ pins s σ H _ I h) fun us s1 ⟨vs, H1, I1, r1, q1⟩ => ?_))
  obtain ⟨v, w, e1, q1⟩ := q1
  subst e1
  obtain ⟨u1, u2, rfl, rv, rw'⟩ : ∃ u1 u2, us = [u1, u2] ∧ RelV v u1 ∧ RelV w u2 := by
    cases r1 with
    | cons p q =>
      cases q with
      | cons p' q' =>
        cases q'
        exact ⟨_, _, rfl, p, p'⟩
  refine wpAny_newObj_type ?_ (by show 2 ≤ sizeLine; decide)
  have I2 : Inv X pins σ H1 { s1 with heap := s1.heap.push { cls := .type "tuple", data := .seq [u1, u2].toArray } } := I1.kept (t' := s1.toks) fun b o e => Heap.get?_push_of_some _ e
  rw [hw]
  refine wpAny_bind (wpAny_pure ?_)
  show wpAny (model X.prog X.w) X.A (do rule "assign.swapped-stores"; let items ← unpackItems (.ref s1.heap.objs.size) 2 none; assignInOrder [fun v => bindName X.env y v, fun v => bindName X.env x v] items.reverse; pure Flow.next) _ _ _
  refine wpAny_bind (wpAny_rule (wpAny_bind (unpackItems_tuple (items := #[u1, u2]) (I.ok.hd hc) (IsTup.new s1.heap _) fun h' hx' => ?_)))
  have I3 := I2.kept (h' := h') (t' := s1.toks) fun b o e => hx' b o (Nat.ne_of_lt (Heap.lt_size e)) e
  show wpAny _ _ (assignInOrder [fun v => bindName X.env y v, fun v => bindName X.env x v] [u2, u1] >>= fun _ => pure Flow.next) _ _ _
  refine wpAny_bind (assignInOrder_cons (wpAny_bindName (store_ok I3 hN hj (.inl hy) rw' (fun s2 I4 => ?_) (.inr hy))))
  refine assignInOrder_cons (wpAny_bindName (store_ok I4 hN hi (.inl hx) rv (fun s3 I5 => assignInOrder_nil (wpAny_pure ?_)) (.inr hx)))
  rw [List.set_comm _ _ (Ne.symm hij)] at I5
  exact ⟨_, H1, I5, q1⟩
/-- name op= e -/
def tAug (i : Nat) (te : TE) (ti : TIp) : TS := fun D σ H => ∃ x, σ[i]? = some (some x) ∧ te σ H fun y H1 => ti x y H1 fun z H2 => D.nx (σ.set i (some z)) H2
/-- o[i] op= e -/
def tAugS (to ti te : TE) (tget : V → V → Hp → VK → Prop) (tip : TIp) (tset : TSet) : TS := fun D σ H => to σ H fun o H1 => ti σ H1 fun i H2 => tget o i H2 fun x H3 => te σ H3 fun y H4 => tip x y H4 fun z H5 => tset o i z H5 fun H6 => D.nx σ H6
/-- o[i], by values -/
def PGet (X : Cx) (t : V → V → Hp → VK → Prop) : Prop :=
  ∀ (pins : List (Addr × Obj)) (s : Shared) (σ : St) (H : Hp) (o i : V) (ov iv : Value) (Q : VK), Inv X pins σ H s → RelV o ov → RelV i iv → t o i H Q →
    wpAny (model X.prog X.w) X.A (getItem ov iv) (EP X pins σ Q) X.xe s
/-- ints -/
def ipI (f : Int → Int → Int) : TIp := fun x y H Q => ∃ i j, x = .int i ∧ y = .int j ∧ Q (.int (f i j)) H
end

/-! ### while -/
section
variable {X : Cx} {pos : Pos}
/-- the invariant W with its measure -/
def tWhile (c : TT) (tb : TS) : TS := fun D σ H => ∃ W : Nat → St → Hp → Prop, (∃ m, W m σ H) ∧ ∀ m σ H, W m σ H →
  c σ H fun b H1 => if b = true then ∃ N : St → Hp → Prop, (∀ σ' H', N σ' H' → ∃ m', m' < m ∧ W m' σ' H') ∧ tb { D with nx := N, ct := N, bk := D.nx } σ H1 else D.nx σ H1
theorem ps_while {c : Expr} {body : List Stmt} {tc : TT} {tb : TS} (hp : PassesOwn (model X.prog X.w) X.A X.env X.xe) (hc : PT X c tc) (hb : PSs X body tb) : PS X (.While c body [] pos) (tWhile tc tb) := by
  intro pins s σ H D I h
  obtain ⟨W, ⟨m0, w0⟩, turn⟩ := h
  refine wpAny_While (codeAny_whileLoop (fun n s' => ∃ σ' H', Inv X pins σ' H' s' ∧ W n σ' H') ?_ m0 ⟨σ, H, I, w0⟩)
  rintro n s1 ⟨σ1, H1, I1, w1⟩
  refine wpAny_passesOwn hp (thn (hc pins s1 σ1 H1 _ I1 (turn n σ1 H1 w1)) fun b s2 ⟨H2, I2, q2⟩ => ?_)
  cases b with
  | true =>
    obtain ⟨N, hN, q2⟩ := q2
    rw [if_pos rfl]
    refine wpAny_passesOwn hp (thn (hb pins s2 σ1 H2 _ I2 q2) fun f s3 q3 => ?_)
    cases f with
    | next =>
      obtain ⟨σ3, H3, I3, n3⟩ := q3
      obtain ⟨m', hm, w3⟩ := hN σ3 H3 n3
      exact ⟨m', hm, σ3, H3, I3, w3⟩
    | cont =>
      obtain ⟨σ3, H3, I3, n3⟩ := q3
      obtain ⟨m', hm, w3⟩ := hN σ3 H3 n3
      exact ⟨m', hm, σ3, H3, I3, w3⟩
    | brk => exact q3
    | ret v => exact q3
  | false =>
    rw [if_neg Bool.false_ne_true]
    exact wpAny_execs_nil ⟨σ1, H2, I2, q2⟩
end

/-! ### what a loop or a comprehension walks -/
/-- at turn i: it yields x (the heap may grow), or it stops -/
structure It where
  go : Nat → Hp → Prop
  yld : Nat → Hp → V → Hp → Prop
  stop : Nat → Hp → Prop
/-- the iterator's own objects may turn: they are not the frame's, not pinned, younger than the entry (or a comprehension's own) -/
def FpOk (X : Cx) (pins : List (Addr × Obj)) (H : Hp) (b : Addr) : Prop :=
  H b = none ∧ b ≠ X.env.locals ∧ b ∉ X.fs ∧ (b ∈ X.ex ∨ X.s₀.heap.objs.size ≤ b) ∧ (∀ x c, X.env.cells.lookup x = some c → c ≠ b) ∧ ∀ p ∈ X.pn ++ pins, p.1 ≠ b
theorem Inv.fpOk {X : Cx} {pins : List (Addr × Obj)} {σ : St} {H H' : Hp} {s : Shared} {b : Addr} (I : Inv X pins σ H s) (hb : s.heap.objs.size ≤ b) (hn : H' b = none) : FpOk X pins H' b := by
  refine ⟨hn, Nat.ne_of_gt (Nat.lt_of_lt_of_le I.lt hb), I.nofs hb, .inr (Nat.le_trans I.sz hb), fun x c e z => ?_, fun p hp z => ?_⟩
  · obtain ⟨v, q⟩ := I.cell x c e
    exact absurd (Nat.lt_of_lt_of_le q.lt (by rw [z]; exact hb)) (Nat.lt_irrefl _)
  · exact absurd (Nat.lt_of_lt_of_le (Heap.lt_size (I.pin p hp).1) (by rw [z]; exact hb)) (Nat.lt_irrefl _)
structure Turn (P : Program) (w : World) (K : PySem.W.Frag) (tg : Expr) (J : It) (fp : List Addr) (it : Addr) (tn : Nat → Heap → Prop) : Prop where
  mem : it ∈ fp
  obj : ∀ i h, tn i h → ∀ b ∈ fp, ∃ o, h.get? b = some o ∧ ∀ v, o.data ≠ .cell v
  keep : ∀ i h h', tn i h → (∀ b ∈ fp, ∀ o, h.get? b = some o → h'.get? b = some o) → tn i h'
  item : ∀ (X : Cx), X.prog = P → X.w = w → X.K = K → X.calm = true → ∀ (i : Nat) (pins : List (Addr × Obj)) (s : Shared) (σ : St) (H : Hp) (E : Value → Shared → Prop), Inv X pins σ H s → (∀ b ∈ fp, FpOk X pins H b) → tn i s.heap → J.go i H →
    wpAny (model P w) X.A (pyNext (.ref it)) (fun r s1 => ∃ u, r = some u ∧
      wpAny (model P w) X.A (letOwnedTupleGo tg (.ref it) u) (fun _ s2 => ∃ x H', Inv X pins σ H' s2 ∧ RelV x u ∧ J.yld i H x H' ∧ tn (i + 1) s2.heap ∧ ∀ b ∈ fp, H' b = none) E s1) E s
  done : ∀ (X : Cx), X.prog = P → X.w = w → X.K = K → X.calm = true → ∀ (i : Nat) (pins : List (Addr × Obj)) (s : Shared) (σ : St) (H : Hp) (E : Value → Shared → Prop), Inv X pins σ H s → (∀ b ∈ fp, FpOk X pins H b) → tn i s.heap → J.stop i H →
    wpAny (model P w) X.A (pyNext (.ref it)) (fun r s1 => r = none ∧ Inv X pins σ H s1) E s
  self : ∀ (A : Around) (i : Nat) (s : Shared) (Q : Value → Shared → Prop) (E : Value → Shared → Prop), tn i s.heap → Q (.ref it) s → wpAny (model P w) A (pyIter (.ref it)) Q E s
abbrev TI := St → Hp → (It → Hp → Prop) → Prop
/-- an iterator has come -/
def PIE (X : Cx) (pins : List (Addr × Obj)) (σ : St) (tg : Expr) (R : It → Hp → Prop) (itv : Value) (s2 : Shared) : Prop :=
  ∃ (it : Addr) (fp : List Addr) (tn : Nat → Heap → Prop) (J : It) (H' : Hp), itv = .ref it ∧ Inv X pins σ H' s2 ∧ Turn X.prog X.w X.K tg J fp it tn ∧ tn 0 s2.heap ∧ (∀ b ∈ fp, FpOk X pins H' b) ∧ R J H'
def PI (X : Cx) (tg iter : Expr) (wi : TI) : Prop :=
  ∀ (pins : List (Addr × Obj)) (s : Shared) (σ : St) (H : Hp) (R : It → Hp → Prop), Inv X pins σ H s → wi σ H R →
    wpAny (model X.prog X.w) X.A (eval iter X.env) (fun v s1 => wpAny (model X.prog X.w) X.A (pyIter v) (PIE X pins σ tg R) X.xe s1) X.xe s

/-- the step ahead of the store is nothing for an iterator that keeps no tuple -/
theorem go_of {M : Model} {A : Around} {E : Value → Shared → Prop} {s : Shared} {tg : Expr} {it : Addr} {u : Value} {o : Obj} {n : String} {vs : Array Value} {Q : Unit → Shared → Prop} (ho : s.heap.get? it = some o) (hc : o.cls = .type n) (hd : o.data = .fields vs)
    (hn : ["enumerate", "zip", "dict_itemiterator", "dict_reverseitemiterator", "odict_iterator", "itertools.zip_longest", "itertools.pairwise"].contains n = false) (hQ : Q () s) : wpAny M A (letOwnedTupleGo tg (.ref it) u) Q E s := by
  unfold letOwnedTupleGo
  cases tg <;> first
    | exact wpAny_pure hQ
    | (cases u <;> first
        | exact wpAny_pure hQ
        | (refine wpAny_bind (wpAny_load ho ?_)
           rw [hc, hd]
           show wpAny M A (if (["enumerate", "zip", "dict_itemiterator", "dict_reverseitemiterator", "odict_iterator", "itertools.zip_longest", "itertools.pairwise"].contains n && vs[0]? == some (rawInt _)) = true then _ else _) Q E s
           rw [if_neg (by intro h; rw [hn, Bool.false_and] at h; cases h)]
           exact wpAny_pure hQ))

/-- the list at a, as it stands at each turn (a loop may append to it) -/
def Itl (K : PySem.W.Frag) (a : Addr) : It :=
  ⟨fun i H => ∃ xs x, SqL K H a xs ∧ xs[i]? = some x, fun i H x H' => H' = H ∧ ∀ xs, SqL K H a xs → xs[i]? = some x, fun i H => ∃ xs, SqL K H a xs ∧ xs.length ≤ i⟩
def Itt (K : PySem.W.Frag) (a : Addr) : It :=
  ⟨fun i H => ∃ xs x, SqT K H a xs ∧ xs[i]? = some x, fun i H x H' => H' = H ∧ ∀ xs, SqT K H a xs → xs[i]? = some x, fun i H => ∃ xs, SqT K H a xs ∧ xs.length ≤ i⟩
/-- lo, lo + 1, .. (n of them) -/
def Itr (lo : Int) (n : Nat) : It := ⟨fun i _ => i < n, fun i H x H' => H' = H ∧ x = .int (lo + i), fun i _ => n ≤ i⟩
theorem turn_list {P : Program} {w : World} {K : PySem.W.Frag} {tg : Expr} (a it : Addr) : Turn P w K tg (Itl K a) [it] it (fun i h => h.IsListIter it a i) where
  mem := by simp
  obj := fun i h st b hb => by
    have e : b = it := by simpa using hb
    subst e
    obtain ⟨o, e, c, d⟩ := st
    exact ⟨o, e, fun v z => by rw [d] at z; cases z⟩
  keep := fun i h h' st k => st.at fun o e => k it (by simp) o e
  item := by
    intro X hP hw hK hc i pins s σ H E I hf st hg
    subst hP hw hK
    obtain ⟨xs, x, hq, hx⟩ := hg
    obtain ⟨its, rv, p, hz⟩ := I.list hq
    obtain ⟨u, hu, ru⟩ := rv.get hx
    obtain ⟨f0, f1, f2, f3, f4, f5⟩ := hf it (by simp)
    refine wpAny_pyNext_list_item st p.isList (x := u) (by simpa using hu) fun h' st' sb => ?_
    have I1 : Inv X pins σ H { s with heap := h' } := I.turned (t' := s.toks) (fun b o hb e => (sb.2 b hb).trans e) f0 f1 f3 f4 f5
    obtain ⟨o, e, c, d⟩ := id st'
    exact ⟨u, rfl, go_of (s := { s with heap := h' }) e c d (by decide) ⟨x, H, I1, ru, ⟨rfl, fun ys hy => by rw [I.list_inj hy hq]; exact hx⟩, st', fun b hb => (hf b hb).1⟩⟩
  done := by
    intro X hP hw hK hc i pins s σ H E I hf st hg
    subst hP hw hK
    obtain ⟨xs, hq, hx⟩ := hg
    obtain ⟨its, rv, p, hz⟩ := I.list hq
    obtain ⟨f0, f1, f2, f3, f4, f5⟩ := hf it (by simp)
    have hl := rv.length
    exact wpAny_pyNext_list_end (I.ok.hd hc) st p.isList (by simp; omega) fun h' eb => ⟨rfl, I.turned (t' := s.toks) (fun b o hb e => eb b o hb e) f0 f1 f3 f4 f5⟩
  self := fun _ _ _ _ _ st h => wpAny_pyIter_listiter st h
theorem turn_tuple {P : Program} {w : World} {K : PySem.W.Frag} {tg : Expr} (a it : Addr) : Turn P w K tg (Itt K a) [it] it (fun i h => h.IsTupleIter it a i) where
  mem := by simp
  obj := fun i h st b hb => by
    have e : b = it := by simpa using hb
    subst e
    obtain ⟨o, e, c, d⟩ := st
    exact ⟨o, e, fun v z => by rw [d] at z; cases z⟩
  keep := fun i h h' st k => st.at fun o e => k it (by simp) o e
  item := by
    intro X hP hw hK hc i pins s σ H E I hf st hg
    subst hP hw hK
    obtain ⟨xs, x, hq, hx⟩ := hg
    obtain ⟨its, rv, p, hz⟩ := I.tuple hq
    obtain ⟨u, hu, ru⟩ := rv.get hx
    obtain ⟨f0, f1, f2, f3, f4, f5⟩ := hf it (by simp)
    refine wpAny_pyNext_tuple_item st (show s.heap.IsTuple a its.toArray from p) (x := u) (by simpa using hu) fun h' st' sb => ?_
    have I1 : Inv X pins σ H { s with heap := h' } := I.turned (t' := s.toks) (fun b o hb e => (sb.2 b hb).trans e) f0 f1 f3 f4 f5
    obtain ⟨o, e, c, d⟩ := id st'
    exact ⟨u, rfl, go_of (s := { s with heap := h' }) e c d (by decide) ⟨x, H, I1, ru, ⟨rfl, fun ys hy => by rw [I.tuple_inj hy hq]; exact hx⟩, st', fun b hb => (hf b hb).1⟩⟩
  done := by
    intro X hP hw hK hc i pins s σ H E I hf st hg
    subst hP hw hK
    obtain ⟨xs, hq, hx⟩ := hg
    obtain ⟨its, rv, p, hz⟩ := I.tuple hq
    obtain ⟨f0, f1, f2, f3, f4, f5⟩ := hf it (by simp)
    have hl := rv.length
    exact wpAny_pyNext_tuple_end (I.ok.hd hc) st (show s.heap.IsTuple a its.toArray from p) (by simp; omega) fun h' eb => ⟨rfl, I.turned (t' := s.toks) (fun b o hb e => eb b o hb e) f0 f1 f3 f4 f5⟩
  self := fun _ _ _ _ _ st h => wpAny_pyIter_tupleiter st h
theorem turn_range {P : Program} {w : World} {K : PySem.W.Frag} {tg : Expr} (it : Addr) (lo : Int) (n : Nat) : Turn P w K tg (Itr lo n) [it] it (fun i h => IsRangeIter h it (lo + (i : Nat) * 1) ((n : Int) - (i : Nat)) 1) where
  mem := by simp
  obj := fun i h st b hb => by
    have e : b = it := by simpa using hb
    subst e
    exact ⟨_, st, fun v z => by
      have z' : Data.fields _ = Data.cell v := z
      cases z'⟩
  keep := fun i h h' st k => k it (by simp) _ st
  item := by
    intro X hP hw hK hc i pins s σ H E I hf st hg
    subst hP hw hK
    obtain ⟨f0, f1, f2, f3, f4, f5⟩ := hf it (by simp)
    have W := Walks.range (prog := X.prog) (w := X.w) (I.ok.hd hc) it lo 1 n
    refine W.item i s _ _ hg st fun v h' tk hv st' kk => ?_
    obtain ⟨t, rfl⟩ := hv
    have I1 : Inv X pins σ H { s with heap := h', toks := tk } := I.turned (fun b o hb e => kk b o (by simpa using hb) e) f0 f1 f3 f4 f5
    refine ⟨_, rfl, go_of (s := { s with heap := h', toks := tk }) (n := "range_iterator") st' rfl rfl (by decide) ⟨.int (lo + i), H, I1, ⟨t, ?_⟩, ⟨rfl, rfl⟩, st', fun b hb => (hf b hb).1⟩⟩
    rw [Int.mul_one]
  done := by
    intro X hP hw hK hc i pins s σ H E I hf st hg
    subst hP hw hK
    obtain ⟨f0, f1, f2, f3, f4, f5⟩ := hf it (by simp)
    exact wpAny_pyNext_range_end (I.ok.hd hc) st (by have : n ≤ i := hg; omega) fun h' eb => ⟨rfl, I.turned (t' := s.toks) (fun b o hb e => eb b o hb e) f0 f1 f3 f4 f5⟩
  self := fun _ _ _ _ _ st h => wpAny_pyIter_rangeiter st h
end L2

namespace L2
open PySem PySem.Spec PyProof.Rows
section
variable {X : Cx} {tg : Expr}
def iList (K : PySem.W.Frag) (tl : TE) : TI := fun σ H R => tl σ H fun x H1 => ∃ a, x = .ref a ∧ (∃ xs, SqL K H1 a xs) ∧ R (Itl K a) H1
def iTup (K : PySem.W.Frag) (tl : TE) : TI := fun σ H R => tl σ H fun x H1 => ∃ a, x = .ref a ∧ (∃ xs, SqT K H1 a xs) ∧ R (Itt K a) H1
/-- a range object just made, walked -/
theorem range_it {pins : List (Addr × Obj)} {σ : St} {H : Hp} {s : Shared} {R : It → Hp → Prop} {E : Value → Shared → Prop} {lo hi : Int} {t u v : Tok} {tk : Nat} (I : Inv X pins σ H s) (h1 : -(2 ^ 62) ≤ lo) (h2 : lo < 2 ^ 62) (h3 : -(2 ^ 62) ≤ hi) (h4 : hi < 2 ^ 62)
    (q : R (Itr lo (hi - lo).toNat) H) : wpAny (model X.prog X.w) X.A (pyIter (.ref s.heap.objs.size)) (PIE X pins σ tg R) E { s with heap := s.heap.push { cls := .type "range", data := .fields #[.int lo t, .int hi u, .int 1 v] }, toks := tk } := by
  refine wpAny_pyIter_range (IsRange.new ..) (small_one h1 h2 h3 h4) ?_
  have I1 : Inv X pins σ H { s with heap := s.heap.push { cls := .type "range", data := .fields #[.int lo t, .int hi u, .int 1 v] }, toks := tk } := I.kept fun b o e => Heap.get?_push_of_some _ e
  refine ⟨(s.heap.push { cls := .type "range", data := .fields #[.int lo t, .int hi u, .int 1 v] }).objs.size, [(s.heap.push { cls := .type "range", data := .fields #[.int lo t, .int hi u, .int 1 v] }).objs.size], _, _, H, rfl,
    I1.kept (t' := tk) fun b o e => Heap.get?_push_of_some _ e, turn_range _ lo (hi - lo).toNat, ?_, fun b hb => ?_, q⟩
  · have e1 : lo + ((0 : Nat) : Int) * 1 = lo := by simp
    have e2 : (((hi - lo).toNat : Nat) : Int) - ((0 : Nat) : Int) = Builtin.Range.rangeSize lo hi 1 := by rw [rangeSize_one]; split <;> omega
    show IsRangeIter _ _ (lo + ((0 : Nat) : Int) * 1) ((((hi - lo).toNat : Nat) : Int) - ((0 : Nat) : Int)) 1
    rw [e1, e2]
    exact Heap.get?_push_size _ rfl
  · have e : b = (s.heap.push { cls := .type "range", data := .fields #[.int lo t, .int hi u, .int 1 v] }).objs.size := by simpa using hb
    subst e
    exact I1.fpOk (Nat.le_refl _) (I1.hok.fresh (Nat.le_refl _))
def iRng1 (ta : TA) : TI := fun σ H R => ta σ H fun vs H1 => ∃ j : Int, vs = [.int j] ∧ -(2 ^ 62) ≤ j ∧ j < 2 ^ 62 ∧ R (Itr 0 j.toNat) H1
def iRng2 (ta : TA) : TI := fun σ H R => ta σ H fun vs H1 => ∃ i j : Int, vs = [.int i, .int j] ∧ (-(2 ^ 62) ≤ i ∧ i < 2 ^ 62 ∧ -(2 ^ 62) ≤ j ∧ j < 2 ^ 62) ∧ R (Itr i (j - i).toNat) H1
theorem pi_range1 {a : Expr} {ta : TA} {p pos : Pos} (hg : Gl X "range") (hm : X.mg "range" = none) (ha : PA X [a] ta) (hs : starEach [a] X.env = [(false, eval a X.env)] := by rfl) : PI X tg (.Call (.Name "range" p) [a] [] pos) (iRng1 ta) := by
  intro pins s σ H R I h
  refine Call_ (ld_blt I hg hm boot_range (PyProof.Rows.callWith_type1 (thn (ha pos pins s σ H _ I h) fun us s1 ⟨vs, H1, I1, r1, q1⟩ => ?_) hs rfl))
  obtain ⟨j, e, q1, q2, q⟩ := q1
  subst e
  cases r1 with
  | cons r rr =>
    cases rr
    obtain ⟨t, rfl⟩ := r
    exact call_range_1 (range_it I1 (by omega) (by omega) q1 q2 (by simpa using q))
theorem pi_range2 {a b : Expr} {ta : TA} {p pos : Pos} (hg : Gl X "range") (hm : X.mg "range" = none) (ha : PA X [a, b] ta) (hs : starEach [a, b] X.env = [(false, eval a X.env), (false, eval b X.env)] := by rfl) (hs2 : starEach [b] X.env = [(false, eval b X.env)] := by rfl) :
    PI X tg (.Call (.Name "range" p) [a, b] [] pos) (iRng2 ta) := by
  intro pins s σ H R I h
  refine Call_ (ld_blt I hg hm boot_range (PyProof.Rows.callWith_type1 (thn (ha pos pins s σ H _ I h) fun us s1 ⟨vs, H1, I1, r1, q1⟩ => ?_) (by rw [hs, hs2]) (by rw [hs2]; rfl)))
  obtain ⟨i, j, e, ⟨q1, q2, q3, q4⟩, q⟩ := q1
  subst e
  cases r1 with
  | cons r rr =>
    cases rr with
    | cons r' rr =>
      cases rr
      obtain ⟨t, rfl⟩ := r
      obtain ⟨t', rfl⟩ := r'
      exact call_range_2 (range_it I1 q1 q2 q3 q4 q)

/-! ### for -/
/-- W: the invariant by the turn and a measure; N: what the body is to reach -/
def tFor (wi : TI) (g : TG) (tb : TS) : TS := fun D σ H => wi σ H fun J H1 => ∃ W : Nat → Nat → St → Hp → Prop, (∃ m, W 0 m σ H1) ∧ ∀ i m σ H, W i m σ H →
  (J.stop i H ∧ D.nx σ H) ∨ (J.go i H ∧ ∃ N : St → Hp → Prop, (∀ σ' H', N σ' H' → ∃ m', m' < m ∧ W (i + 1) m' σ' H') ∧ ∀ x H', J.yld i H x H' → g x σ H' fun σ2 H2 => tb { D with nx := N, ct := N, bk := D.nx } σ2 H2)
/-- the records at fp as they stand -/
def pinsAt (fp : List Addr) (h : Heap) : List (Addr × Obj) := fp.filterMap fun b => (h.get? b).map fun o => (b, o)
theorem mem_pinsAt {fp : List Addr} {h : Heap} {b : Addr} {o : Obj} (hb : b ∈ fp) (e : h.get? b = some o) : (b, o) ∈ pinsAt fp h := List.mem_filterMap.mpr ⟨b, hb, by rw [e]; rfl⟩
theorem of_pinsAt {fp : List Addr} {h : Heap} {p : Addr × Obj} (hp : p ∈ pinsAt fp h) : p.1 ∈ fp ∧ h.get? p.1 = some p.2 := by
  obtain ⟨b, hb, e⟩ := List.mem_filterMap.mp hp
  cases q : h.get? b with
  | none => rw [q] at e; cases e
  | some o =>
    rw [q] at e
    have e' : (b, o) = p := Option.some.inj e
    subst e'
    exact ⟨hb, q⟩
theorem Inv.pinned {pins : List (Addr × Obj)} {σ : St} {H : Hp} {s : Shared} {fp : List Addr} (I : Inv X pins σ H s) (hf : ∀ b ∈ fp, FpOk X pins H b) (ho : ∀ b ∈ fp, ∃ o, s.heap.get? b = some o ∧ ∀ v, o.data ≠ .cell v) : Inv X (pins ++ pinsAt fp s.heap) σ H s :=
  I.pins_of fun p hp => (List.mem_append.mp hp).elim (fun z => I.pin p (List.mem_append_right _ z)) fun z => by
    obtain ⟨hb, e⟩ := of_pinsAt z
    obtain ⟨f0, f1, f2, _⟩ := hf p.1 hb
    obtain ⟨o, e', d⟩ := ho p.1 hb
    rw [e] at e'; cases e'
    exact ⟨e, f0, f1, f2, d⟩
theorem Inv.unpinned {pins pl : List (Addr × Obj)} {σ : St} {H : Hp} {s : Shared} (I : Inv X (pins ++ pl) σ H s) : Inv X pins σ H s := I.pins_of fun p hp => I.pin p (List.mem_append_right _ (List.mem_append_left _ hp))
theorem ps_for {iter : Expr} {body : List Stmt} {wi : TI} {g : TG} {tb : TS} {pos : Pos} (hp : PassesOwn (model X.prog X.w) X.A X.env X.xe) (hc : X.calm = true) (hi : PI X tg iter wi) (hg : PG X tg g) (hb : PSs X body tb)
    (hs : ∀ x, foldedSetIterable iter X.env x = pure x := by intro _; rfl) : PS X (.For tg iter body [] pos) (tFor wi g tb) := by
  intro pins s σ H D I h
  refine wpAny_For (thn (hi pins s σ H _ I h) fun v s1 h1 => thn h1 fun itv s2 h2 => ?_) hs
  obtain ⟨it, fp, tn, J, H2, e, I2, T, st2, f2, W, ⟨m0, w0⟩, turn⟩ := h2
  subst e
  -- what stays true of the iterator's objects through the loop
  have stat : ∀ {H' : Hp}, (∀ b ∈ fp, H' b = none) → ∀ b ∈ fp, FpOk X pins H' b := fun hn b hb => ⟨hn b hb, (f2 b hb).2⟩
  refine codeAny_forLoop_any (fun n s' => ∃ i σ' H', Inv X pins σ' H' s' ∧ tn i s'.heap ∧ (∀ b ∈ fp, H' b = none) ∧ W i n σ' H') ?_ m0 ⟨0, σ, H2, I2, st2, fun b hb => (f2 b hb).1, w0⟩
  rintro n s3 ⟨i, σ3, H3, I3, st3, fr3, w3⟩
  rcases turn i n σ3 H3 w3 with ⟨stop, qn⟩ | ⟨go, N, hN, step⟩
  · refine wpAny_passesOwn hp (thn (T.done X rfl rfl rfl hc i pins s3 σ3 H3 X.xe I3 (stat fr3) st3 stop) fun r s4 ⟨hr, I4⟩ => ?_)
    subst hr
    exact wpAny_execs_nil ⟨σ3, H3, I4, qn⟩
  · refine wpAny_passesOwn hp (thn (T.item X rfl rfl rfl hc i pins s3 σ3 H3 X.xe I3 (stat fr3) st3 go) fun r s4 ⟨u, hr, h4⟩ => ?_)
    subst hr
    refine wpAny_passesOwn hp (thn h4 fun _ s5 ⟨x, H5, I5, r5, y5, st5, fr5⟩ => ?_)
    have I5' := I5.pinned (stat fr5) (T.obj _ _ st5)
    refine wpAny_passesOwn hp (thn (hg _ s5 σ3 H5 x u _ I5' r5 (step x H5 y5)) fun _ s6 ⟨σ6, H6, I6, q6⟩ => ?_)
    refine wpAny_passesOwn hp (thn (hb _ s6 σ6 H6 _ I6 q6) fun f s7 q7 => ?_)
    have again : ∀ {σ7 : St} {H7 : Hp}, Inv X (pins ++ pinsAt fp s5.heap) σ7 H7 s7 → N σ7 H7 → ∃ m, m < n ∧ ∃ i σ' H', Inv X pins σ' H' s7 ∧ tn i s7.heap ∧ (∀ b ∈ fp, H' b = none) ∧ W i m σ' H' := fun {σ7 H7} I7 n7 => by
      obtain ⟨m', hm, w7⟩ := hN σ7 H7 n7
      refine ⟨m', hm, i + 1, σ7, H7, I7.unpinned, T.keep _ _ _ st5 fun b hb o e => (I7.pin (b, o) (List.mem_append_right _ (List.mem_append_right _ (mem_pinsAt hb e)))).1, fun b hb => ?_, w7⟩
      obtain ⟨o, e, d⟩ := T.obj _ _ st5 b hb
      exact (I7.pin (b, o) (List.mem_append_right _ (List.mem_append_right _ (mem_pinsAt hb e)))).2.1
    cases f with
    | next => obtain ⟨σ7, H7, I7, n7⟩ := q7; exact again I7 n7
    | cont => obtain ⟨σ7, H7, I7, n7⟩ := q7; exact again I7 n7
    | brk => obtain ⟨σ7, H7, I7, q7⟩ := q7; exact ⟨σ7, H7, I7.unpinned, q7⟩
    | ret v => obtain ⟨x7, σ7, H7, I7, r7, q7⟩ := q7; exact ⟨x7, σ7, H7, I7.unpinned, r7, q7⟩
end

/-! ### the forms one uses -/
end L2

namespace L2
open PySem PySem.Spec PyProof.Rows

abbrev R2 := V → V → Hp → VK → Prop
/-- a two-place operation on values: f is binaryOp op, inplaceOp op or compareOp op -/
def OpR (X : Cx) (f : Value → Value → Sem Value) (r : R2) : Prop :=
  ∀ (pins : List (Addr × Obj)) (s : Shared) (σ : St) (H : Hp) (x y : V) (v u : Value) (Q : VK), Inv X pins σ H s → RelV x v → RelV y u → r x y H Q →
    wpAny (model X.prog X.w) X.A (f v u) (EP X pins σ Q) X.xe s
/-- a one-place operation -/
def UnR (X : Cx) (f : Value → Sem Value) (r : V → Hp → VK → Prop) : Prop :=
  ∀ (pins : List (Addr × Obj)) (s : Shared) (σ : St) (H : Hp) (x : V) (v : Value) (Q : VK), Inv X pins σ H s → RelV x v → r x H Q →
    wpAny (model X.prog X.w) X.A (f v) (EP X pins σ Q) X.xe s
/-- a call of a value that is known (a builtin, a type) with values -/
def CallR (X : Cx) (f : Value) (r : List V → Hp → VK → Prop) : Prop :=
  ∀ (pins : List (Addr × Obj)) (s : Shared) (σ : St) (H : Hp) (xs : List V) (us : List Value) (Q : VK), Inv X pins σ H s → Vals xs us → r xs H Q →
    wpAny (model X.prog X.w) X.A (call f us) (EP X pins σ Q) X.xe s
/-- a value's truth -/
def TruR (X : Cx) (r : V → Hp → (Bool → Hp → Prop) → Prop) : Prop :=
  ∀ (pins : List (Addr × Obj)) (s : Shared) (σ : St) (H : Hp) (x : V) (v : Value) (Q : Bool → Hp → Prop), Inv X pins σ H s → RelV x v → r x H Q →
    wpAny (model X.prog X.w) X.A (truthy v) (TP X pins σ Q) X.xe s

def tOp (r : R2) (ta tb : TE) : TE := fun σ H Q => ta σ H fun x H1 => tb σ H1 fun y H2 => r x y H2 Q
def tUn (r : V → Hp → VK → Prop) (ta : TE) : TE := fun σ H Q => ta σ H fun x H1 => r x H1 Q
/-- ints in, under C, and a value out -/
def rI (C : Int → Int → Prop) (g : Int → Int → V) : R2 := fun x y H Q => ∃ i j, x = .int i ∧ y = .int j ∧ C i j ∧ Q (g i j) H
def rI0 (g : Int → Int → V) : R2 := fun x y H Q => ∃ i j, x = .int i ∧ y = .int j ∧ Q (g i j) H
def rU (g : Int → V) : V → Hp → VK → Prop := fun x H Q => ∃ i, x = .int i ∧ Q (g i) H

section
variable {X : Cx} {a b c : Expr} {ta tb tc : TE} {pos : Pos}

theorem binT (ha : PE X a ta) (hb : PE X b tb) {pins : List (Addr × Obj)} {s : Shared} {σ : St} {H : Hp} {R : V → V → Hp → Prop} (I : Inv X pins σ H s)
    (h : ta σ H fun x H1 => tb σ H1 fun y H2 => R x y H2) {Q : Value → Shared → Prop} {f : Value → Value → Sem Value}
    (hf : ∀ v u s2 x y H2, Inv X pins σ H2 s2 → RelV x v → RelV y u → R x y H2 → wpAny (model X.prog X.w) X.A (f v u) Q X.xe s2) :
    wpAny (model X.prog X.w) X.A (eval a X.env) (fun v s₁ => wpAny (model X.prog X.w) X.A (eval b X.env) (fun u s₂ => wpAny (model X.prog X.w) X.A (f v u) Q X.xe s₂) X.xe s₁) X.xe s := by
  refine thn (ha pins s σ H _ I h) fun v s1 ⟨x, H1, I1, r1, q1⟩ => ?_
  refine thn (hb pins s1 σ H1 _ I1 q1) fun u s2 ⟨y, H2, I2, r2, q2⟩ => ?_
  exact hf v u s2 x y H2 I2 r1 r2 q2

theorem pe_op {op : Operator} {r : R2} (ho : OpR X (binaryOp op) r) (ha : PE X a ta) (hb : PE X b tb) : PE X (.BinOp a op b pos) (tOp r ta tb) := by
  intro pins s σ H Q I h
  exact wpAny_BinOp (binT ha hb I h fun v u s2 x y H2 I2 rx ry q => ho pins s2 σ H2 x y v u Q I2 rx ry q)
/-! ### ints -/
theorem opI {f : Value → Value → Sem Value} {C : Int → Int → Prop} {g : Int → Int → Int}
    (rule : ∀ (i j : Int) (t u : Tok) (s : Shared) (Q : Value → Shared → Prop) (E : Value → Shared → Prop), C i j → Q (.int (g i j) s.toks) { s with toks := s.toks + 1 } → wpAny (model X.prog X.w) X.A (f (.int i t) (.int j u)) Q E s) :
    OpR X f (rI C fun i j => .int (g i j)) := by
  intro pins s σ H x y v u Q I rx ry h
  obtain ⟨i, j, rfl, rfl, hc, q⟩ := h
  obtain ⟨t, rfl⟩ := rx
  obtain ⟨t', rfl⟩ := ry
  exact rule i j t t' s _ _ hc ⟨.int (g i j), H, I.tok _, ⟨_, rfl⟩, q⟩
theorem opI0 {f : Value → Value → Sem Value} {g : Int → Int → Int}
    (rule : ∀ (i j : Int) (t u : Tok) (s : Shared) (Q : Value → Shared → Prop) (E : Value → Shared → Prop), Q (.int (g i j) s.toks) { s with toks := s.toks + 1 } → wpAny (model X.prog X.w) X.A (f (.int i t) (.int j u)) Q E s) :
    OpR X f (rI0 fun i j => .int (g i j)) := by
  intro pins s σ H x y v u Q I rx ry h
  obtain ⟨i, j, rfl, rfl, q⟩ := h
  obtain ⟨t, rfl⟩ := rx
  obtain ⟨t', rfl⟩ := ry
  exact rule i j t t' s _ _ ⟨.int (g i j), H, I.tok _, ⟨_, rfl⟩, q⟩
theorem opB0 {f : Value → Value → Sem Value} {g : Int → Int → Bool}
    (rule : ∀ (i j : Int) (t u : Tok) (s : Shared) (Q : Value → Shared → Prop) (E : Value → Shared → Prop), Q (.bool (g i j)) s → wpAny (model X.prog X.w) X.A (f (.int i t) (.int j u)) Q E s) :
    OpR X f (rI0 fun i j => .bl (g i j)) := by
  intro pins s σ H x y v u Q I rx ry h
  obtain ⟨i, j, rfl, rfl, q⟩ := h
  obtain ⟨t, rfl⟩ := rx
  obtain ⟨t', rfl⟩ := ry
  exact rule i j t t' s _ _ ⟨.bl (g i j), H, I, rfl, q⟩

def CDiv (i j : Int) : Prop := 0 < j ∧ j < 1073741824
def CDivN (i j : Int) : Prop := j ≠ 0 ∧ j.natAbs < 1073741824
def CPow (i j : Int) : Prop := 0 ≤ j ∧ j ≤ 1000000 ∧ i.natAbs < 2 ^ 64
def CMul (i j : Int) : Prop := (-(2 ^ 64) < i ∧ i < 2 ^ 64) ∨ (-(2 ^ 64) < j ∧ j < 2 ^ 64)
theorem CMul.ok {i j : Int} (h : CMul i j) : IntMulOk i j := by
  rcases h with ⟨h1, h2⟩ | ⟨h1, h2⟩
  · exact .of_left (intBits_le_64 h1 h2)
  · exact .of_right (intBits_le_64 h1 h2)
theorem op_add : OpR X (binaryOp .Add) (rI0 fun i j => .int (i + j)) := opI0 fun _ _ _ _ _ _ _ q => add_int q
theorem op_sub : OpR X (binaryOp .Sub) (rI0 fun i j => .int (i - j)) := opI0 fun _ _ _ _ _ _ _ q => sub_int q
/-- % by a positive divisor of any size -/
theorem op_mod : OpR X (binaryOp .Mod) (rI (fun _ j => 0 < j) fun i j => .int (i % j)) := opI fun i j _ _ _ _ _ hc q => by
  have h1 : (0 : Int) < j := hc
  exact mod_int' (by omega) (by rw [Int.fmod_eq_emod_of_nonneg i (by omega)]; exact q)
theorem op_pow : OpR X (binaryOp .Pow) (rI CPow fun i j => .int (i ^ j.toNat)) := opI fun _ _ _ _ _ _ _ hc q => pow_int_small hc.1 hc.2.1 hc.2.2 q
/-! ### bools among ints: n += (a < b) -/
end

/-! ### comparisons -/
/-- the scalars that == tells apart as data does -/
def scal : V → V → Bool
  | .non, .non => true | .non, .int _ => true | .int _, .non => true | .non, .bl _ => true | .bl _, .non => true | .non, .str _ => true | .str _, .non => true
  | .int _, .int _ => true | .bl _, .bl _ => true | .str _, .str _ => true | .byt _, .byt _ => true
  | .int _, .str _ => true | .str _, .int _ => true | .bl _, .str _ => true | .str _, .bl _ => true
  | _, _ => false
def rEq : R2 := fun x y H Q => scal x y = true ∧ Q (.bl (decide (x = y))) H
def rNe : R2 := fun x y H Q => scal x y = true ∧ Q (.bl (!decide (x = y))) H

section
variable {X : Cx} {a b c : Expr} {ta tb tc : TE} {pos : Pos}
theorem fin_bl {pins : List (Addr × Obj)} {σ : St} {H : Hp} {s : Shared} {Q : VK} {k k' : Bool} (I : Inv X pins σ H s) (q : Q (.bl k) H) (e : k = k') : EP X pins σ Q (.bool k') s := by
  subst e
  exact ⟨.bl k, H, I, rfl, q⟩
theorem op_lt : OpR X (compareOp .Lt) (rI0 fun i j => .bl (decide (i < j))) := opB0 fun _ _ _ _ _ _ _ q => lt_int q
theorem op_gt : OpR X (compareOp .Gt) (rI0 fun i j => .bl (decide (j < i))) := opB0 fun _ _ _ _ _ _ _ q => gt_int q
theorem op_ge : OpR X (compareOp .GtE) (rI0 fun i j => .bl (decide (j ≤ i))) := opB0 fun _ _ _ _ _ _ _ q => ge_int q
/-- is None, is not None: the right side a value none -/
theorem op_isN : OpR X (compareOp .Is) (fun x y H Q => y = .non ∧ Q (.bl (decide (x = .non))) H) := by
  intro pins s σ H x y v u Q I rx ry h
  obtain ⟨rfl, q⟩ := h
  cases ry
  refine is_none_gen (fin_bl I q ?_)
  cases x <;> first
    | (cases rx; rfl)
    | (obtain ⟨t, rfl⟩ := rx; rfl)
/-- is, is not of two objects that are tracked lists or instances -/
def isObj : HO → Bool
  | .lst _ => true
  | .ins _ _ _ => true
  | _ => false
/-- two rules for one operation: by cases -/
theorem OpR.or {f : Value → Value → Sem Value} {r r' : R2} (h : OpR X f r) (h' : OpR X f r') : OpR X f (fun x y H Q => r x y H Q ∨ r' x y H Q) := by
  intro pins s σ H x y v u Q I rx ry q
  rcases q with q | q
  · exact h pins s σ H x y v u Q I rx ry q
  · exact h' pins s σ H x y v u Q I rx ry q

theorem nomark (b : Expr) {op : CmpOp} (h : op ≠ .In := by decide) (h2 : op ≠ .NotIn := by decide) : behindInMarks op b = false := by
  have e1 : (op == CmpOp.In) = false := by cases op <;> first | rfl | exact absurd rfl h
  have e2 : (op == CmpOp.NotIn) = false := by cases op <;> first | rfl | exact absurd rfl h2
  cases b <;> simp [behindInMarks, e1, e2]
/-- a comparison as a value; hm: nomark b, or (for in, not in) by with_unfolding_all rfl -/
theorem pe_cmpR {op : CmpOp} {r : R2} (ho : OpR X (compareOp op) r) (ha : PE X a ta) (hb : PE X b tb) (hm : behindInMarks op b = false) : PE X (.Compare a [op] [b] pos) (tOp r ta tb) := by
  intro pins s σ H Q I h
  exact wpAny_Compare1 (binT ha hb I h fun v u s2 x y H2 I2 rx ry q => ho pins s2 σ H2 x y v u Q I2 rx ry q) hm
/-- a reading of a value as a test -/
def tTest (t : TE) : TT := fun σ H Q => t σ H fun x H' => ∃ k, x = .bl k ∧ Q k H'
theorem pt_cmpR {op : CmpOp} {r : R2} (ho : OpR X (compareOp op) r) (ha : PE X a ta) (hb : PE X b tb) (hm : behindInMarks op b = false) : PT X (.Compare a [op] [b] pos) (tTest (tOp r ta tb)) := by
  intro pins s σ H Q I h
  refine wpAny_isTrue_Compare1 (thn (ha pins s σ H _ I h) fun v s1 ⟨x, H1, I1, r1, q1⟩ => thn (hb pins s1 σ H1 _ I1 q1) fun u s2 ⟨y, H2, I2, r2, q2⟩ =>
    thn (ho pins s2 σ H2 x y v u _ I2 r1 r2 q2) fun c s3 ⟨z, H3, I3, r3, k, e, q3⟩ => ?_) hm
  subst e
  cases r3
  exact wpAny_truthy_bool ⟨H3, I3, q3⟩
/-- a op1 b op2 c -/
def tChain (r r' : R2) (ta tb tc : TE) : TE := fun σ H Q => ta σ H fun x H1 => tb σ H1 fun y H2 => r x y H2 fun z H3 => ∃ k, z = .bl k ∧
  (if k = true then tc σ H3 fun w' H4 => r' y w' H4 Q else Q (.bl false) H3)
/-! ### truth -/
/-- a value's truth by the abstract heap -/
def TruV (K : PySem.W.Frag) (x : V) (H : Hp) (k : Bool) : Prop :=
  match x with
  | .non => k = false
  | .bl b => k = b
  | .int i => k = (i != 0)
  | .str y => y.length ≤ sizeLine ∧ k = ((y.length : Int) != 0)
  | .byt y => y.size ≤ sizeLine ∧ k = ((y.size : Int) != 0)
  | .ref p => (∃ xs, SqL K H p xs ∧ k = !xs.isEmpty) ∨ (∃ xs, SqT K H p xs ∧ k = !xs.isEmpty) ∨ ∃ kvs, H p = some (.dK kvs) ∧ k = !kvs.isEmpty
  | _ => False
theorem isEmpty_kv {κ : Type} {kvs : List (κ × V)} {vs : List (κ × Value)} (r : KV kvs vs) : (!vs.isEmpty) = !kvs.isEmpty := by
  cases r <;> rfl
theorem isEmpty_of {xs : List V} {its : List Value} (r : Vals xs its) : (!its.toArray.isEmpty) = !xs.isEmpty := by
  cases r <;> simp
theorem line63 : (sizeLine : Nat) < 2 ^ 63 := by rw [sizeLine_eq]; decide
theorem tru_ok : TruR X (fun x H Q => ∃ k, TruV X.K x H k ∧ Q k H) := by
  intro pins s σ H x v Q I rx h
  obtain ⟨k, e, q⟩ := h
  have hl := line63
  have hs : sizeLine = 16777216 := sizeLine_eq
  cases x with
  | non =>
    cases rx
    have e' : k = false := e
    subst e'
    exact truthy_none ⟨H, I, q⟩
  | bl b =>
    cases rx
    have e' : k = b := e
    subst e'
    exact wpAny_truthy_bool ⟨H, I, q⟩
  | int i =>
    obtain ⟨t, rfl⟩ := rx
    have e' : k = (i != 0) := e
    subst e'
    exact PySem.P.truthy_int ⟨H, I, q⟩
  | str y =>
    obtain ⟨t, rfl⟩ := rx
    obtain ⟨hy, e'⟩ : y.length ≤ sizeLine ∧ k = ((y.length : Int) != 0) := e
    subst e'
    exact PySem.P.truthy_str (by omega) ⟨H, I.tok _, q⟩
  | byt y =>
    obtain ⟨t, rfl⟩ := rx
    obtain ⟨hy, e'⟩ : y.size ≤ sizeLine ∧ k = ((y.size : Int) != 0) := e
    subst e'
    exact PySem.W.truthy_bytes (by omega) ⟨H, I.tok _, q⟩
  | ref p =>
    cases rx
    have e' : (∃ xs, SqL X.K H p xs ∧ k = !xs.isEmpty) ∨ (∃ xs, SqT X.K H p xs ∧ k = !xs.isEmpty) ∨ ∃ kvs, H p = some (.dK kvs) ∧ k = !kvs.isEmpty := e
    rcases e' with ⟨xs, hx, e'⟩ | ⟨xs, hx, e'⟩ | ⟨kvs, hx, e'⟩
    · subst e'
      obtain ⟨its, r, pl, hz⟩ := I.list hx
      have hlen := r.length
      exact wpAny_truthy_list pl.isList (by simp only [List.size_toArray]; omega) ⟨H, I.tok _, by rw [isEmpty_of r]; exact q⟩
    · subst e'
      obtain ⟨its, r, pl, hz⟩ := I.tuple hx
      have hlen := r.length
      exact truthy_tuple pl (by simp only [List.size_toArray]; omega) ⟨H, I.tok _, by rw [isEmpty_of r]; exact q⟩
    · subst e'
      obtain ⟨hz, hS, vs, r, m⟩ : kvs.length ≤ sizeLine ∧ (p == sysModules) = false ∧ ∃ vs, KV kvs vs ∧ s.heap.DictOf (mixKind X.prog X.w) p vs := I.hok p _ hx
      have hlen : kvs.length = vs.length := Paired.length r
      exact wpAny_truthy_dict hS m (by omega) ⟨H, I.tok _, by rw [isEmpty_kv r]; exact q⟩
  | _ => exact (show False from e).elim
/-- any expression whose test is its value's truth (a name, a call, a subscript, a field ..: he by fun _ => rfl) -/
theorem pt_truth (ha : PE X a ta) (he : ∀ whole, isTrue a X.env whole = (do let v ← whole; standAt a.pos; holding [v] (truthy v))) :
    PT X a (fun σ H Q => ta σ H fun x H' => ∃ k, TruV X.K x H' k ∧ Q k H') := by
  intro pins s σ H Q I h
  exact isTrue_plain (thn (ha pins s σ H _ I h) fun v s1 ⟨x, H1, I1, r1, q1⟩ => tru_ok pins s1 σ H1 x v Q I1 r1 q1) (he _)

/-! ### strs and bytes -/
theorem op_add_str : OpR X (binaryOp .Add) (fun x y H Q => ∃ i j, x = .str i ∧ y = .str j ∧ i.length + j.length ≤ sizeLine ∧ Q (.str (i ++ j)) H) := by
  intro pins s σ H x y v u Q I rx ry h
  obtain ⟨i, j, rfl, rfl, hz, q⟩ := h
  obtain ⟨t, rfl⟩ := rx
  obtain ⟨t', rfl⟩ := ry
  exact add_str (fun t' tk => ⟨.str (i ++ j), H, I.tok _, ⟨_, rfl⟩, q⟩) hz
def PlainIxT (b : Expr) : Prop := ∀ o i, subscripted b false o i = operate [o, i] (getItem o i)
/-! ### scalar builtins, by CallR -/
theorem vals1 {x : V} {us : List Value} (r : Vals [x] us) : ∃ u, us = [u] ∧ RelV x u := by
  cases r with
  | cons r1 r2 => cases r2; exact ⟨_, rfl, r1⟩
theorem vals2 {x y : V} {us : List Value} (r : Vals [x, y] us) : ∃ u w', us = [u, w'] ∧ RelV x u ∧ RelV y w' := by
  cases r with
  | cons r1 r2 =>
    cases r2 with
    | cons r3 r4 => cases r4; exact ⟨_, _, rfl, r1, r3⟩
theorem call_min2 (hc : X.calm = true) : CallR X (.builtin "min") (fun xs H Q => ∃ i j, xs = [.int i, .int j] ∧ Q (.int (if j < i then j else i)) H) := by
  intro pins s σ H xs us Q I r h
  obtain ⟨i, j, rfl, q⟩ := h
  obtain ⟨u, w', rfl, ⟨t, rfl⟩, ⟨t', rfl⟩⟩ := vals2 r
  refine min_two_ints (I.ok.hd hc) fun h' tk k => ⟨_, H, I.kept k, ?_, q⟩
  by_cases hj : j < i
  · rw [if_pos hj, if_pos hj]; exact ⟨_, rfl⟩
  · rw [if_neg hj, if_neg hj]; exact ⟨_, rfl⟩
theorem call_int1 : CallR X (.type "int") (fun xs H Q => (∃ i, xs = [.int i] ∧ Q (.int i) H) ∨ ∃ k, xs = [.bl k] ∧ Q (.int (if k then 1 else 0)) H) := by
  intro pins s σ H xs us Q I r h
  rcases h with ⟨i, rfl, q⟩ | ⟨k, rfl, q⟩
  · obtain ⟨u, rfl, t, rfl⟩ := vals1 r
    exact call_int_int ⟨.int i, H, I, ⟨_, rfl⟩, q⟩
  · obtain ⟨u, rfl, r1⟩ := vals1 r
    cases r1
    exact call_int_bool ⟨.int (if k then 1 else 0), H, I.tok _, ⟨_, rfl⟩, q⟩
/-- len of a str, a bytes, a list, a tuple -/
def LenV (K : PySem.W.Frag) (x : V) (H : Hp) (n : Nat) : Prop :=
  match x with
  | .str y => y.length ≤ sizeLine ∧ n = y.length
  | .byt y => y.size ≤ sizeLine ∧ n = y.size
  | .ref p => (∃ xs, SqL K H p xs ∧ n = xs.length) ∨ ∃ xs, SqT K H p xs ∧ n = xs.length
  | _ => False
end
end L2

namespace L2
open PySem PySem.Spec PyProof.Rows

/-! ### an instance, its attributes a map -/
structure ObjM (h : Heap) (x dx C : Addr) (mA : Str → Option Value) : Prop where
  obj : h.get? x = some (PySem.W.instObj C dx)
  ns : h.Ns1 dx mA
  ne : dx ≠ x

section
variable {prog : Program} {w : World} {A : Around} {E : Value → Shared → Prop} {s : Shared} {K : PySem.W.Frag} {x dx C f : Addr} {mA : Str → Option Value} {name : Str} {v : Value}

end

/-! ### the attributes as a list of pairs -/
def putF (f : Str) (v : V) : List (Str × V) → List (Str × V)
  | [] => [(f, v)]
  | (g, x) :: r => if g = f then (g, v) :: r else (g, x) :: putF f v r
section
variable {P : Program} {w : World} {H H' : Hp} {h h' : Heap} {a C dx : Addr} {fs fs' : List (Str × V)}
end

/-! ### what of the text a class must have -/
structure Cls (K : PySem.W.Frag) (C : Addr) : Prop where
  pg : PySem.W.plainGet K C Str.empty = true
  hd : PySem.W.hasDictIn K C = true
  po : PySem.W.plainOver K C = true
  sa : PySem.W.findIn K (.ref C) "__setattr__" = some (some (.builtin "object.__setattr__"))
theorem Cls.get {K : PySem.W.Frag} {C : Addr} (c : Cls K C) (f : Str) : PySem.W.plainGet K C f = true := c.pg
/-- no class of it has the name -/
def NoAttr (K : PySem.W.Frag) (C : Addr) (f : Str) : Prop := PySem.W.findIn K (.ref C) f = some none
/-- a constant of the class -/
structure Con (K : PySem.W.Frag) (C : Addr) (f : Str) (v : V) (u : Value) : Prop where
  at_ : PySem.W.findIn K (.ref C) f = some (some u)
  rel : RelV v u
  get : PySem.W.specialIn K u "__get__" = some none
  cp : PySem.W.copiedNames.contains f = false
/-- a method: a plain def of the class or of one above it -/
structure Meth (K : PySem.W.Frag) (C : Addr) (m : Str) (f : Addr) : Prop where
  at_ : PySem.W.findIn K (.ref C) m = some (some (.ref f))
  fn : PySem.W.isFn K (.ref f) = true
  kp : PySem.W.keepIn K (.ref f) = true

section
variable {X : Cx} {pins : List (Addr × Obj)} {σ : St} {H : Hp} {s : Shared} {a C dx : Addr} {fs : List (Str × V)} {f : Str} {v : V} {A : Around} {E : Value → Shared → Prop}

/-- a new instance, tracked, without attributes -/
theorem Inv.made (I : Inv X pins σ H s) : Inv X pins σ (upd (upd H s.heap.objs.size (.own (s.heap.objs.size + 1))) (s.heap.objs.size + 1) (.ins C s.heap.objs.size []))
    { s with heap := (s.heap.push PySem.W.emptyDict).push (PySem.W.instObj C s.heap.objs.size) } := by
  have e1 : (s.heap.push PySem.W.emptyDict).get? s.heap.objs.size = some PySem.W.emptyDict := Heap.get?_push_size s.heap rfl
  have e2 : ((s.heap.push PySem.W.emptyDict).push (PySem.W.instObj C s.heap.objs.size)).get? (s.heap.objs.size + 1) = some (PySem.W.instObj C s.heap.objs.size) := by
    have := Heap.get?_push_size (s.heap.push PySem.W.emptyDict) (o := PySem.W.instObj C s.heap.objs.size) rfl
    rwa [Heap.size_push] at this
  have e3 : (s.heap.push PySem.W.emptyDict).Ns s.heap.objs.size (fun _ => none) := ⟨PySem.W.emptyDict, #[], _, e1, rfl, (fun e he => absurd he (by simp)), fun _ => rfl⟩
  have I1 := I.laid (a := s.heap.objs.size) (o := .own (s.heap.objs.size + 1)) (h' := s.heap.push PySem.W.emptyDict) (t' := s.toks) (fun b u q => Heap.get?_push_of_some _ q) (Nat.le_refl _) ⟨_, e1⟩
  refine I1.laid (a := s.heap.objs.size + 1) (o := .ins C s.heap.objs.size []) (t' := s.toks) (fun b u q => Heap.get?_push_of_some _ q) (Nat.le_of_eq (Heap.size_push _ _)) ?_
  have ne : s.heap.objs.size ≠ s.heap.objs.size + 1 := Nat.ne_of_lt (Nat.lt_succ_self _)
  refine ⟨by rw [upd_ne ne, upd_same], Nat.zero_le _, ne, e2, fun _ => none, (Heap.Ns1.of_empty e3).at fun o q => Heap.get?_push_of_some _ q, fun _ => True.intro, fun y hy => absurd rfl hy⟩

end

/-! ### readings and rules -/
/-- e.f, an attribute of the instance -/
def tFld (K : PySem.W.Frag) (ta : TE) (f : Str) : TE := fun σ H Q => ta σ H fun x H1 => ∃ a C dx fs v, x = .ref a ∧ H1 a = some (.ins C dx fs) ∧ Cls K C ∧ NoAttr K C f ∧ fs.lookup f = some v ∧ Q v H1
/-- e.f, a constant of the class -/
def tCon (K : PySem.W.Frag) (ta : TE) (f : Str) : TE := fun σ H Q => ta σ H fun x H1 => ∃ a C dx fs v u, x = .ref a ∧ H1 a = some (.ins C dx fs) ∧ Cls K C ∧ Con K C f v u ∧ fs.lookup f = none ∧ Q v H1
/-- e.f = value -/
def sFld (K : PySem.W.Frag) (ta tv : TE) (f : Str) : TS := fun D σ H => tv σ H fun y H1 => ta σ H1 fun x H2 => ∃ a C dx fs, x = .ref a ∧ H2 a = some (.ins C dx fs) ∧ Cls K C ∧ NoAttr K C f ∧ fs.length < 1000 ∧
  D.nx σ (upd H2 a (.ins C dx (putF f y fs)))
/-- an augmented operator on two values -/
def InOp (X : Cx) (op : Operator) (rd : V → V → Hp → VK → Prop) : Prop :=
  ∀ (pins : List (Addr × Obj)) (s : Shared) (σ : St) (H : Hp) (x y : V) (u v : Value) (Q : VK), Inv X pins σ H s → RelV x u → RelV y v → rd x y H Q → wpAny (model X.prog X.w) X.A (inplaceOp op u v) (EP X pins σ Q) X.xe s
/-- e.f op= value -/
def sFldAug (K : PySem.W.Frag) (ta tv : TE) (rd : V → V → Hp → VK → Prop) (f : Str) : TS := fun D σ H => ta σ H fun x H1 => ∃ a C dx fs v, x = .ref a ∧ H1 a = some (.ins C dx fs) ∧ Cls K C ∧ NoAttr K C f ∧ fs.lookup f = some v ∧
  tv σ H1 fun y H2 => rd v y H2 fun z H3 => ∃ dx' fs', H3 a = some (.ins C dx' fs') ∧ fs'.length < 1000 ∧ D.nx σ (upd H3 a (.ins C dx' (putF f z fs')))

section
variable {X : Cx} {o e value : Expr} {f : Str} {pos pos' tpos : Pos} {ta tv : TE}
def rAdd : V → V → Hp → VK → Prop := fun x y H Q => ∃ i j, x = .int i ∧ y = .int j ∧ Q (.int (i + j)) H
def rSub : V → V → Hp → VK → Prop := fun x y H Q => ∃ i j, x = .int i ∧ y = .int j ∧ Q (.int (i - j)) H
end

/-! ### isinstance -/
section
variable {X : Cx} {pins : List (Addr × Obj)} {σ : St} {H : Hp} {s : Shared} {A : Around} {E : Value → Shared → Prop} {Q : Value → Shared → Prop} {c : Value} {b : Bool}
/-- the type of a value, as the fragment's deciders take it; for an instance its class -/
inductive TyOf (K : PySem.W.Frag) (H : Hp) : V → Value → Prop where
  | non : TyOf K H .non (.type "NoneType")
  | bl (x : Bool) : TyOf K H (.bl x) (.type "bool")
  | int (i : Int) : TyOf K H (.int i) (.type "int")
  | str (x : Str) : TyOf K H (.str x) (.type "str")
  | flt (x : UInt64) : TyOf K H (.flt x) (.type "float")
  | lst {a : Addr} {xs : List V} (e : H a = some (.lst xs)) : TyOf K H (.ref a) (.type "list")
  | frz {a : Addr} {o : Obj} {xs : List V} (e : H a = some (.frz o (.lst xs))) : TyOf K H (.ref a) (.type "list")
  | tup {a : Addr} {xs : List V} (e : H a = some (.tup xs)) : TyOf K H (.ref a) (.type "tuple")
  | dK {a : Addr} {kvs : List (Key × V)} (e : H a = some (.dK kvs)) : TyOf K H (.ref a) (.type "dict")
  | dT {a : Addr} {kvs : List (List Key × V)} (e : H a = some (.dT kvs)) : TyOf K H (.ref a) (.type "dict")
  | ins {a C dx : Addr} {fs : List (Str × V)} (e : H a = some (.ins C dx fs)) (cl : Cls K C) (ha : PySem.W.findIn K (.ref C) "__class__" = some (some (.builtin "object.__class__")))
      (hn : PySem.W.specialIn K (.builtin "object.__class__") "__get__" = some (some (.builtin "getset_descriptor.__get__"))) (htk : PySem.W.takesIn K (.builtin "object.__class__") = some true)
      (hm : PySem.W.mroIn K C (.type "object") = some true) : TyOf K H (.ref a) (.ref C)
end
end L2

namespace L2
open PySem PySem.Spec PyProof.Rows

/-! ### room -/
structure Room (k : Nat) (A : Around) : Prop where
  hd : A.handled = none
  dp : A.depth + 3 * k + 5 < recursionLimit
  un : A.units + 16 * k + 200 < cLine
theorem Room.mono {j k : Nat} {A : Around} (r : Room k A) (h : j ≤ k) : Room j A := ⟨r.hd, by have := r.dp; omega, by have := r.un; omega⟩
theorem Room.deeper {k : Nat} {A : Around} (r : Room (k + 1) A) (env : Env) : Room k (A.deeper env) :=
  ⟨r.hd, by have := r.dp; show A.depth + 1 + 3 * k + 5 < _; omega, by have := r.un; show A.units + 3 + 16 * k + 200 < _; omega⟩
theorem Room.in1 {k : Nat} {A : Around} (r : Room (k + 1) A) : Room k A.in1 :=
  ⟨r.hd, by have := r.dp; show A.depth + 3 * k + 5 < _; omega, by have := r.un; show A.units + 1 + 16 * k + 200 < _; omega⟩
theorem Room.depth {k : Nat} {A : Around} (r : Room k A) : A.depth < recursionLimit := by have := r.dp; omega
theorem Room.units {k : Nat} {A : Around} (r : Room k A) : A.units + 64 < cLine := by have := r.un; omega
/-! ### argument lists and displays -/
def tNil : TA := fun _ H Q => Q [] H
def tCons (ta : TE) (tr : TA) : TA := fun σ H Q => ta σ H fun x H1 => tr σ H1 fun xs H2 => Q (x :: xs) H2
section
variable {X : Cx} {e : Expr} {es : List Expr} {te : TE} {t : TA} {pos : Pos}
theorem pa_nil : PA X [] tNil := fun _ _ _ _ H Q I h => Calls.spliced_nil ⟨[], H, I, .nil, h⟩
theorem pa_cons (ha : PE X e te) (hr : PA X es t) (hs : starEach (e :: es) X.env = (false, eval e X.env) :: starEach es X.env := by rfl) : PA X (e :: es) (tCons te t) := by
  intro pos pins s σ H Q I h
  rw [hs]
  show wpAny _ _ (spliced ((false, eval e X.env) :: backTo pos (starEach es X.env))) _ _ s
  refine Calls.spliced_cons (thn (ha pins s σ H _ I h) fun u s1 ⟨x, H1, I1, r1, q1⟩ => ?_)
  exact thn (hr pos pins s1 σ H1 _ I1 q1) fun us s2 ⟨xs, H2, I2, r2, q2⟩ => ⟨x :: xs, H2, I2, .cons r1 r2, q2⟩

/-- a tuple, a list of written items -/
def tTup (t : TA) : TE := fun σ H Q => t σ H fun xs H1 => xs.length ≤ sizeLine ∧ ∀ p, H1 p = none → Q (.ref p) (upd H1 p (.tup xs))
def tLst (t : TA) : TE := fun σ H Q => t σ H fun xs H1 => xs.length ≤ sizeLine ∧ ∀ p, H1 p = none → Q (.ref p) (upd H1 p (.lst xs))
theorem pe_tup {x1} (h : PA X es t) : PE X (.Tuple es x1 pos) (tTup t) := by
  intro pins s σ H Q I hq
  refine wpAny_Tuple_spliced (thn (h pos pins s σ H _ I hq) fun us s1 ⟨xs, H1, I1, r, z, q⟩ => ⟨by rw [← r.length]; exact z, ?_⟩)
  have hf : H1 s1.heap.objs.size = none := I1.hok.fresh (Nat.le_refl _)
  refine ⟨.ref s1.heap.objs.size, upd H1 s1.heap.objs.size (.tup xs), I1.laid (t' := s1.toks) (fun b u e => Heap.get?_push_of_some _ e) (Nat.le_refl _) ?_, rfl, q _ hf⟩
  exact ⟨z, us, r, ⟨_, Heap.get?_push_size _ rfl, rfl, _, rfl⟩⟩
theorem pe_lst (h : PA X es t) : PE X (.List es pos) (tLst t) := by
  intro pins s σ H Q I hq
  refine wpAny_List_spliced (thn (h pos pins s σ H _ I hq) fun us s1 ⟨xs, H1, I1, r, z, q⟩ => ⟨by rw [← r.length]; exact z, ?_⟩)
  have hf : H1 s1.heap.objs.size = none := I1.hok.fresh (Nat.le_refl _)
  refine ⟨.ref s1.heap.objs.size, upd H1 s1.heap.objs.size (.lst xs), I1.laid (t' := s1.toks) (fun b u e => Heap.get?_push_of_some _ e) (Nat.le_refl _) ?_, rfl, q _ hf⟩
  exact ⟨z, us, 0, r, Heap.get?_push_size _ rfl⟩
end

/-! ### what a def promises -/
/-- a def's promise: the bound arguments in the parameters' order, the heap, the wanted end, the wanted exception -/
abbrev Sp := List V → Hp → VK → XK → Prop
/-- how an exception lies behind a call (file 08 gives it): the callers' frames, abstract heap and state ahead of the call, the wish, the exception, the state -/
abbrev CXT := List Env → Hp → Shared → XK → Value → Shared → Prop

/-- the state at a call -/
structure Env0 (P : Program) (w : World) (K : PySem.W.Frag) (mg : Str → Option Value) (base : Heap) (A : Around) (outer : List Env) (s : Shared) (H : Hp) : Prop where
  frames : A.frames = some outer
  mod : Mod K mg base
  bs : ∀ b o, base.get? b = some o → s.heap.get? b = some o ∧ H b = none
  bsz : base.objs.size ≤ s.heap.objs.size
  funs : s.heap.FunFrames base outer
  frf : ∀ b ∈ frs outer, H b = none
  hok : HOk P w H s.heap
  bare : AllBare s.gens
/-- a call's end -/
def CE (outer : List Env) (P : Program) (w : World) (H : Hp) (s : Shared) (Q : VK) (u : Value) (s' : Shared) : Prop :=
  ∃ v H', s'.os = s.os ∧ AllBare s'.gens ∧ Un (frs outer) [] H H' s.heap s'.heap ∧ HOk P w H' s'.heap ∧ RelV v u ∧ Q v H'
def CR (CX : CXT) (outer : List Env) (P : Program) (w : World) (H : Hp) (s : Shared) (Q : VK) (E : XK) (r : Result) (s' : Shared) : Prop :=
  match r with
  | .ok (.ret u) => CE outer P w H s Q u s'
  | .ok _ => False
  | .error e => CX outer H s E e s'
structure FnOk (P : Program) (w : World) (K : PySem.W.Frag) (mg : Str → Option Value) (base : Heap) (CX : CXT) (k : Nat) (f : Addr) (fd : FuncData) (ps : List Str) (sp : Sp) : Prop where
  len : ∀ vs H Q E, sp vs H Q E → vs.length = ps.length
  run : ∀ (A : Around) (outer : List Env) (s : Shared) (H : Hp) (args : Args) (us : List Value) (vs : List V) (Q : VK) (E : XK), Room k A → Env0 P w K mg base A outer s H → BindsTo s fd args (ps.zip us) → Vals vs us → sp vs H Q E →
    codeAny (model P w) A (.call (.ref f) args) (CR CX outer P w H s Q E) s
theorem FnOk.mono {P : Program} {w : World} {K : PySem.W.Frag} {mg : Str → Option Value} {base : Heap} {CX : CXT} {j k : Nat} {f : Addr} {fd : FuncData} {ps : List Str} {sp : Sp} (F : FnOk P w K mg base CX j f fd ps sp) (h : j ≤ k) :
    FnOk P w K mg base CX k f fd ps sp := ⟨F.len, fun A outer s H args us vs Q E hr => F.run A outer s H args us vs Q E (hr.mono h)⟩
/-- a weaker promise -/
theorem FnOk.imp {P : Program} {w : World} {K : PySem.W.Frag} {mg : Str → Option Value} {base : Heap} {CX : CXT} {k : Nat} {f : Addr} {fd : FuncData} {ps : List Str} {sp sp' : Sp} (F : FnOk P w K mg base CX k f fd ps sp)
    (h : ∀ vs H Q E, sp' vs H Q E → sp vs H Q E) : FnOk P w K mg base CX k f fd ps sp' :=
  ⟨fun vs H Q E q => F.len vs H Q E (h _ _ _ _ q), fun A outer s H args us vs Q E hr he hb hv hs => F.run A outer s H args us vs Q E hr he hb hv (h _ _ _ _ hs)⟩

theorem Env0.in1 {P : Program} {w : World} {K : PySem.W.Frag} {mg : Str → Option Value} {base : Heap} {A : Around} {outer : List Env} {s : Shared} {H : Hp} (e : Env0 P w K mg base A outer s H) :
    Env0 P w K mg base A.in1 outer s H := ⟨e.frames, e.mod, e.bs, e.bsz, e.funs, e.frf, e.hok, e.bare⟩

section
variable {X : Cx} {pins : List (Addr × Obj)} {σ : St} {H : Hp} {s s' : Shared}
/-- from a body: what a callee wants -/
theorem Inv.env0 (I : Inv X pins σ H s) : Env0 X.prog X.w X.K X.mg X.base X.A X.stack s H :=
  ⟨I.ok.frames, I.ok.mod, I.bs, Nat.le_trans I.ok.bsz I.sz, I.stack, I.stkFree, I.hok, I.bare⟩
/-- behind a call -/
theorem Inv.after {Q : VK} {u : Value} (I : Inv X pins σ H s) (h : CE X.stack X.prog X.w H s Q u s') : EP X pins σ Q u s' := by
  obtain ⟨v, H', os, bare, un, hok, r, q⟩ := h
  obtain ⟨hh, g, d, t, os'⟩ := s'
  obtain rfl : os' = s.os := os
  exact ⟨v, H', I.call (h' := hh) (g' := g) (d' := d) (t' := t) (ch := []) un hok bare (fun b z => absurd z (by simp)), r, q⟩
end

/-! ### calls -/
/-- f(..): the written arguments, then the defaults dvs; E: what is wanted of an exception -/
def tCall (sp : Sp) (dvs : List V) (E : XK) (t : TA) : TE := fun σ H Q => t σ H fun vs H1 => sp (vs ++ dvs) H1 Q E
/-- o.m(..) of an instance of the class at C -/
def tMeth (C : Addr) (m : Str) (sp : Sp) (dvs : List V) (E : XK) (ta : TE) (t : TA) : TE := fun σ H Q => ta σ H fun x H1 => ∃ a dx fs, x = .ref a ∧ H1 a = some (.ins C dx fs) ∧ fs.lookup m = none ∧
  t σ H1 fun vs H2 => sp (x :: (vs ++ dvs)) H2 Q E
/-- C(..): a new instance and its dict, then __init__ -/
def tMake (C : Addr) (sp : Sp) (dvs : List V) (E : XK) (t : TA) : TE := fun σ H Q => t σ H fun vs H1 => ∀ x dx, H1 x = none → H1 dx = none → dx ≠ x →
  sp (.ref x :: (vs ++ dvs)) (upd (upd H1 dx (.own x)) x (.ins C dx [])) (fun v H2 => v = .non ∧ Q (.ref x) H2) E

/-- how the parameters are bound: us the positional arguments, kw the keywords' values by name, ds the defaults that fill up -/
def Binds (K : PySem.W.Frag) (fd : FuncData) (ps : List Str) (ds : List Value) : Prop :=
  ∀ (s : Shared) (us : List Value), K.In s.heap → (us ++ ds).length = ps.length → BindsTo s fd ⟨us, []⟩ (ps.zip (us ++ ds))
/-- every parameter is given -/
theorem Binds.all {K : PySem.W.Frag} {fd : FuncData} {ps : List Str} (h : ∀ us : List Value, us.length = ps.length → bindArgs fd ⟨us, []⟩ = pure (ps.zip us)) : Binds K fd ps [] := fun s us _ hl => by
  rw [List.append_nil] at hl ⊢
  exact .of_eq (h us hl)

/-- an exception of a callee reaches what this body wants of exceptions -/
def Passes (CX : CXT) (X : Cx) (E : XK) : Prop := ∀ (pins : List (Addr × Obj)) (σ : St) (H : Hp) (s : Shared) (e : Value) (s' : Shared), Inv X pins σ H s → CX X.stack H s E e s' → X.xe e s'

section
variable {X : Cx} {CX : CXT} {k : Nat} {f C : Addr} {fd : FuncData} {ps : List Str} {sp : Sp} {dvs : List V} {ds : List Value} {E : XK} {x m : Str} {p pos apos : Pos} {e o : Expr} {es : List Expr} {ta : TE} {t : TA}

/-- the callee runs -/
theorem run_fn {pins : List (Addr × Obj)} {σ : St} {H : Hp} {s : Shared} {Q : VK} {us : List Value} {vs : List V} (F : FnOk X.prog X.w X.K X.mg X.base CX k f fd ps sp) (hr : Room k X.A) (hb : Binds X.K fd ps ds) (hd : Vals dvs ds) (hx : Passes CX X E)
    (I : Inv X pins σ H s) (r : Vals vs us) (h : sp (vs ++ dvs) H Q E) : wpAny (model X.prog X.w) X.A (call (.ref f) us) (EP X pins σ Q) X.xe s := by
  have r2 : Vals (vs ++ dvs) (us ++ ds) := r.append hd
  have hl : (us ++ ds).length = ps.length := by rw [← r2.length]; exact F.len _ _ _ _ h
  refine wpAny_call (codeAny_mono (F.run X.A X.stack s H ⟨us, []⟩ (us ++ ds) (vs ++ dvs) Q E hr I.env0 (hb s us I.kIn hl) r2 h) fun r s' hq => ?_)
  cases r with
  | error e => exact hx pins σ H s e s' I hq
  | ok fl =>
    cases fl with
    | ret u => exact I.after hq
    | next => exact False.elim hq
    | brk => exact False.elim hq
    | cont => exact False.elim hq

theorem pe_call (F : FnOk X.prog X.w X.K X.mg X.base CX k f fd ps sp) (hr : Room k X.A) (hg : Gl X x) (hm : X.mg x = some (.ref f)) (hk : PySem.W.keepIn X.K (.ref f) = true) (hb : Binds X.K fd ps ds) (hd : Vals dvs ds) (hx : Passes CX X E)
    (ha : PA X (e :: es) t) (hdb : (x == ("__debug__" : Str)) = false := by decide) (he : starEach (e :: es) X.env = (false, eval e X.env) :: starEach es X.env := by rfl) (hpl : (backTo pos (starEach es X.env)).any (·.1) = false := by rfl) :
    PE X (.Call (.Name x p) (e :: es) [] pos) (tCall sp dvs E t) := by
  intro pins s σ H Q I h
  refine wpAny_Call_Name_kw (ld_glob I hg hm ?_ hdb)
  refine PySem.W.callWith_K (h₀ := X.base) I.ok.mod.kin hk (thn (ha pos pins s σ H _ I h) fun us s1 ⟨vs, H1, I1, r, q⟩ => ⟨I1.kIn, ?_⟩) he hpl
  exact run_fn F hr hb hd hx I1 r q
/-- what a class must have to be made -/
structure Mk (K : PySem.W.Frag) (C f : Addr) : Prop where
  makes : PySem.W.makesIn K C = true
  init : PySem.W.findIn K (.ref C) "__init__" = some (some (.ref f))
  fn : PySem.W.isFn K (.ref f) = true
  kp : PySem.W.keepIn K (.ref C) = true

end

/-! ### keywords -/
/-- the values of the keywords, from the left -/
def PK (X : Cx) (kws : List Keyword) (t : TA) : Prop :=
  ∀ (pos : Pos) (pins : List (Addr × Obj)) (s : Shared) (σ : St) (H : Hp) (Q : List V → Hp → Prop), Inv X pins σ H s → t σ H Q → wpAny (model X.prog X.w) X.A (evalAll ((backToKw pos (keywordEach kws X.env)).map (·.2))) (AP X pins σ Q) X.xe s
section
variable {X : Cx} {CX : CXT} {k : Nat} {f C : Addr} {fd : FuncData} {ps ks : List Str} {sp : Sp} {E : XK} {x m : Str} {p pos apos kpos : Pos} {e o : Expr} {es : List Expr} {kws : List Keyword} {te ta : TE} {t tk : TA} {nm : Option Str}
/-- how a call with keywords binds: g puts the positional values us and the keywords' values ws (names ks) in the parameters' order, defaults among them -/
structure KBinds (K : PySem.W.Frag) (fd : FuncData) (ps ks : List Str) (g : List Value → List Value → List Value) (gV : List V → List V → List V) : Prop where
  to : ∀ (s : Shared) (us ws : List Value), K.In s.heap → (g us ws).length = ps.length → BindsTo s fd ⟨us, ks.zip ws⟩ (ps.zip (g us ws))
  rel : ∀ {vs : List V} {us : List Value} {zs : List V} {ws : List Value}, Vals vs us → Vals zs ws → Vals (gV vs zs) (g us ws)
def tCallK (sp : Sp) (gV : List V → List V → List V) (E : XK) (t tk : TA) : TE := fun σ H Q => t σ H fun vs H1 => tk σ H1 fun zs H2 => sp (gV vs zs) H2 Q E
variable {g : List Value → List Value → List Value} {gV : List V → List V → List V}
end

/-! ### a def's body keeps its promise -/
/-- names: the parameters first -/
structure FnScope (N P : List Str) (sc : Scope) : Prop where
  kind : sc.kind = .function
  co : sc.isCoroutine = false
  gen : sc.isGenerator = false
  nd : N.Nodup
  pre : N.take P.length = P
  par : ∀ x ∈ P, sc.names.lookup x = some .local ∨ sc.names.lookup x = some .cell
  nofree : ∀ y ∈ sc.names, y.2 ≠ .free

theorem bindL_out {kindOf : Str → Option NameKind} {x : Str} : ∀ {binds : List (Str × Value)} {m : Str → Option Value}, (∀ v, (x, v) ∉ binds) → bindL kindOf binds m x = m x
  | [], _, _ => rfl
  | (n, v) :: r, m, h => by
    unfold bindL
    rw [bindL_out fun w hw => h w (List.mem_cons_of_mem _ hw)]
    split
    · have : x ≠ n := by rintro rfl; exact h v List.mem_cons_self
      simp [this]
    · rfl
theorem bindC_out {kindOf : Str → Option NameKind} {x : Str} : ∀ {binds : List (Str × Value)} {m : Str → Option Value}, (∀ v, (x, v) ∉ binds) → bindC kindOf binds m x = m x
  | [], _, _ => rfl
  | (n, v) :: r, m, h => by
    unfold bindC
    rw [bindC_out fun w hw => h w (List.mem_cons_of_mem _ hw)]
    split
    · rfl
    · have : x ≠ n := by rintro rfl; exact h v List.mem_cons_self
      simp [this]
theorem bindL_get {kindOf : Str → Option NameKind} {x : Str} {v : Value} : ∀ {P : List Str} {vs : List Value} {i : Nat} {m : Str → Option Value}, P.Nodup → P[i]? = some x → vs[i]? = some v → kindOf x = some .local →
    bindL kindOf (P.zip vs) m x = some v
  | [], _, _, _, _, h, _, _ => by simp at h
  | _ :: _, [], _, _, _, _, h, _ => by simp at h
  | p :: P, w :: vs, 0, m, nd, h1, h2, hk => by
    simp at h1 h2; subst h1; subst h2
    show bindL kindOf ((p, w) :: P.zip vs) m p = _
    unfold bindL
    rw [bindL_out fun v hv => (List.nodup_cons.mp nd).1 (List.of_mem_zip hv).1, if_pos hk]
    simp
  | p :: P, w :: vs, i + 1, m, nd, h1, h2, hk => by
    show bindL kindOf ((p, w) :: P.zip vs) m x = _
    unfold bindL
    exact bindL_get (i := i) (List.nodup_cons.mp nd).2 (by simpa using h1) (by simpa using h2) hk
theorem bindC_get {kindOf : Str → Option NameKind} {x : Str} {v : Value} : ∀ {P : List Str} {vs : List Value} {i : Nat} {m : Str → Option Value}, P.Nodup → P[i]? = some x → vs[i]? = some v → kindOf x ≠ some .local →
    bindC kindOf (P.zip vs) m x = some v
  | [], _, _, _, _, h, _, _ => by simp at h
  | _ :: _, [], _, _, _, _, h, _ => by simp at h
  | p :: P, w :: vs, 0, m, nd, h1, h2, hk => by
    simp at h1 h2; subst h1; subst h2
    show bindC kindOf ((p, w) :: P.zip vs) m p = _
    unfold bindC
    rw [bindC_out fun v hv => (List.nodup_cons.mp nd).1 (List.of_mem_zip hv).1, if_neg hk]
    simp
  | p :: P, w :: vs, i + 1, m, nd, h1, h2, hk => by
    show bindC kindOf ((p, w) :: P.zip vs) m x = _
    unfold bindC
    exact bindC_get (i := i) (List.nodup_cons.mp nd).2 (by simpa using h1) (by simpa using h2) hk

/-- the names' values at the entry -/
def start (N : List Str) (vs : List V) : St := vs.map some ++ List.replicate (N.length - vs.length) none

/-- the context of a def's body, at its entry; an exception leaves the frame, then lies as CX says -/
def cxOf (CX : CXT) (P : Program) (w : World) (K : PySem.W.Frag) (mg : Str → Option Value) (base : Heap) (N : List Str) (qual : Str) (scope : Scope) (f : Addr) (cd : Value) (A : Around) (outer : List Env) (s : Shared) (H : Hp) (E : XK) : Cx where
  prog := P
  w := w
  K := K
  mg := mg
  base := base
  A := A.deeper (envOfC qual scope s.heap.objs.size f cd)
  N := N
  s₀ := s
  H₀ := H
  env := envOfC qual scope s.heap.objs.size f cd
  outer := outer
  stack := envOfC qual scope s.heap.objs.size f cd :: outer
  ex := []
  calm := true
  fn := fun _ => true
  pn := []
  xe := fun e s' => wpAny (model P w) (A.deeper (envOfC qual scope s.heap.objs.size f cd)) (leaving (envOfC qual scope s.heap.objs.size f cd) e) (fun _ s'' => CX outer H s E e s'') (fun e' s'' => CX outer H s E e' s'') s'

theorem cell_has {sc : Scope} {n : Nat} {x : Str} (h : sc.names.lookup x = some .cell) : ∃ c, (cellsFrom n sc.names []).lookup x = some c := by
  have q := PySem.W.cellsFrom_some sc.names n [] (.inl h)
  exact Option.isSome_iff_exists.mp q

theorem inv_start {CX : CXT} {P : Program} {w : World} {K : PySem.W.Frag} {mg : Str → Option Value} {base : Heap} {N ps : List Str} {qual : Str} {scope : Scope} {f : Addr} {cd : Value} {A : Around} {outer : List Env} {s s1 : Shared} {H : Hp} {E : XK} {us : List Value} {vs : List V}
    (S : FnScope N ps scope) (hd : A.handled = none) (e0 : Env0 P w K mg base A outer s H) (hl : vs.length = ps.length) (r : Vals vs us)
    (x : InCallC s s.heap.objs.size (bindL (envOfC qual scope s.heap.objs.size f cd).kindOf (ps.zip us) fun _ => none) (cellsFrom (s.heap.objs.size + 1) scope.names []) (bindC (envOfC qual scope s.heap.objs.size f cd).kindOf (ps.zip us) fun _ => none) s1) :
    Inv (cxOf CX P w K mg base N qual scope f cd A outer s H E) [] (start N vs) H s1 := by
  have hpl : ps.length ≤ N.length := by have := congrArg List.length S.pre; rw [List.length_take] at this; omega
  obtain ⟨h1, tk, rfl, hk⟩ := x.done
  have noA : ∀ b : Addr, b ∉ (cxOf CX P w K mg base N qual scope f cd A outer s H E).ex := fun b z => absurd (show b ∈ ([] : List Addr) from z) (by simp)
  refine ⟨⟨e0.mod, S.kind, rfl, rfl, Nat.le_refl _, fun y z c h1 h2 => ?_, fun y hy => ?_, fun y c _ h => ?_, fun _ => hd, Around.frames_deeper e0.frames, .inr ⟨rfl, rfl⟩, fun b z => absurd z (noA b), e0.bs, e0.bsz, fun b _ _ => noA b, fun b z => absurd z (noA b), e0.funs, e0.frf⟩,
    rfl, e0.bare, Un.kept hk, ⟨_, x.toInCall.ns, fun i y v h1 h2 h3 => ?_⟩, fun y c h => ⟨_, x.cell y c h⟩, e0.hok.fresh (Nat.le_refl _), fun y c h => ?_, fun p hp => absurd (show p ∈ ([] : List (Addr × Obj)) from hp) (by simp), e0.hok.kept hk, ?_⟩
  · exact name_of_addr x.apart (PySem.mem_of_lookup h1) (PySem.mem_of_lookup h2)
  · have hy : scope.names.lookup y = some .cell ∨ scope.names.lookup y = some .free := hy
    rcases hy with hy | hy
    · exact cell_has hy
    · exact absurd rfl (S.nofree _ (PySem.mem_of_lookup hy))
  · exact Nat.le_of_lt (x.above y c (PySem.mem_of_lookup h))
  · have hi : i < vs.length := by
      unfold start at h2
      by_cases hi : i < vs.length
      · exact hi
      · rw [List.getElem?_append_right (by simpa using hi)] at h2
        rw [List.getElem?_replicate] at h2
        split at h2 <;> cases h2
    have ha : vs[i]? = some v := by
      unfold start at h2
      rw [List.getElem?_append_left (by simpa using hi), List.getElem?_map] at h2
      cases e : vs[i]? with
      | none => rw [e] at h2; cases h2
      | some a => rw [e] at h2; cases h2; rfl
    obtain ⟨u, hu, rv⟩ := r.get ha
    have hp : ps[i]? = some y := by
      rw [← S.pre, List.getElem?_take_of_lt (by omega)]; exact h1
    have ndP : ps.Nodup := by rw [← S.pre]; exact S.nd.sublist (List.take_sublist _ _)
    refine ⟨u, rv, ?_⟩
    rcases S.par y (List.mem_of_getElem? hp) with k | k
    · exact .inl ⟨k, bindL_get ndP hp hu k⟩
    · obtain ⟨c, e⟩ := cell_has (n := s.heap.objs.size + 1) k
      refine .inr ⟨.inl k, c, e, ?_⟩
      have q := x.cell y c e
      rw [bindC_get ndP hp hu (by show scope.names.lookup y ≠ _; rw [k]; decide)] at q
      exact q
  · exact e0.hok.fresh (Nat.le_of_lt (x.above y c (PySem.mem_of_lookup h)))
  · unfold start
    show _ = N.length
    rw [List.length_append, List.length_map, List.length_replicate]
    omega

/-- THE RULE: a def (or a method) of the text, by its body. The body's reading t is chosen for each entry; it is run at the parameters' values -/
theorem fn_of {CX : CXT} {P : Program} {w : World} {K : PySem.W.Frag} {mg : Str → Option Value} {base : Heap} {k : Nat} {f : Addr} {name qual : Str} {params : Arguments} {body : List Stmt} {scope : Scope} {dV kV doc pm cdv ct oc : Value} {an od : Option Addr}
    {osl : Array (Option Value)} {N ps : List Str} {sp : Sp} (lk : K.lookup f = some ⟨oc, od, .func (PySem.W.fnOf name qual params body scope dV kV doc pm an cdv ct), osl⟩) (hcd : PySem.W.codeIn K cdv qual = true) (S : FnScope N ps scope)
    (len : ∀ vs H Q E, sp vs H Q E → vs.length = ps.length)
    (hbody : ∀ (A : Around) (outer : List Env) (s : Shared) (H : Hp) (vs : List V) (Q : VK) (E : XK), Room k (A.deeper (envOfC qual scope s.heap.objs.size f cdv)) → sp vs H Q E →
      ∃ t, PSs (cxOf CX P w K mg base N qual scope f cdv A outer s H E) body t ∧ t { nx := fun _ H' => Q .non H', rt := Q } (start N vs) H) :
    FnOk P w K mg base CX (k + 1) f (PySem.W.fnOf name qual params body scope dV kV doc pm an cdv ct) ps sp := by
  refine ⟨len, fun A outer s H args us vs Q E hr e0 hb r hsp => ?_⟩
  have hl := len _ _ _ _ hsp
  have KX : K.In s.heap := e0.mod.kin.keeps fun b o e => (e0.bs b o e).1
  have lim : s.heap.NoLimit := e0.mod.nolimit.keeps fun b o e => (e0.bs b o e).1
  have hkind : ∀ y ∈ ps.zip us, scope.names.lookup y.1 = some .local ∨ (scope.names.lookup y.1 = some .cell ∧ ((cellsFrom (s.heap.objs.size + 1) scope.names []).lookup y.1).isSome = true) := fun ⟨n, v⟩ hy => by
    rcases S.par n (List.of_mem_zip hy).1 with q | q
    · exact .inl q
    · exact .inr ⟨q, PySem.W.cellsFrom_some _ _ _ (.inl q)⟩
  refine codeAny_call_function hr.depth (KX _ _ lk) rfl S.co S.gen rfl (PySem.W.codeRec_of KX hcd) (hb _ _ _ _ ?_)
  refine wpAny_newFunctionEnv_cells S.kind hkind fun env he s1 x => ?_
  subst he
  refine ⟨lim.keeps x.toInCall.keep, codeAny_func ?_⟩
  obtain ⟨t, ht, hq⟩ := hbody A outer s H vs Q E (hr.deeper _) hsp
  have I : Inv (cxOf CX P w K mg base N qual scope f cdv A outer s H E) [] (start N vs) H s1 := inv_start S hr.hd e0 hl r x
  refine wpAny_mono (ht [] s1 (start N vs) H _ I hq) (fun fl s' hs => ?_) fun e s' hs => hs
  have fin : ∀ {σ' : St} {H' : Hp} {v : V} {u : Value}, Inv (cxOf CX P w K mg base N qual scope f cdv A outer s H E) [] σ' H' s' → RelV v u → Q v H' → CE outer P w H s Q u s' :=
    fun {σ' H' v u} J rv q => ⟨v, H', J.os, J.bare, J.base, J.hok, rv, q⟩
  cases fl with
  | ret u =>
    obtain ⟨v, σ', H', J, rv, q⟩ := hs
    exact fin J rv q
  | next =>
    obtain ⟨σ', H', J, q⟩ := hs
    exact fin (v := V.non) (u := Value.none) J rfl q
  | brk =>
    obtain ⟨_, _, _, q⟩ := hs
    exact False.elim q
  | cont =>
    obtain ⟨_, _, _, q⟩ := hs
    exact False.elim q
end L2

namespace L2
open PySem PySem.Spec PyProof.Rows
section
variable {X : Cx} {x : Str} {p pos : Pos} {e : Expr} {es : List Expr} {t : TA} {id T : String} {r : List V → Hp → VK → Prop}

def tCB (r : List V → Hp → VK → Prop) (t : TA) : TE := fun σ H Q => t σ H fun vs H1 => r vs H1 Q
/-- f(e, ..), f a built-in function -/
theorem pe_callB (hc : CallR X (.builtin id) r) (hg : Gl X x) (hm : X.mg x = none) (hv : bootBuiltins x = some (.builtin id)) (ha : PA X (e :: es) t) (hn : x ≠ "__name__" := by decide) (hdb : (x == ("__debug__" : Str)) = false := by decide)
    (he : starEach (e :: es) X.env = (false, eval e X.env) :: starEach es X.env := by rfl) (hpl : (backTo pos (starEach es X.env)).any (·.1) = false := by rfl) : PE X (.Call (.Name x p) (e :: es) [] pos) (tCB r t) := by
  intro pins s σ H Q I h
  refine wpAny_Call_Name_kw (ld_blt I hg hm hv ?_ hn hdb)
  exact PyProof.Rows.callWith_builtin1 (thn (ha pos pins s σ H _ I h) fun us s1 ⟨vs, H1, I1, r1, q1⟩ => hc pins s1 σ H1 vs us Q I1 r1 q1) he hpl
/-- T(e, ..), T a built-in type -/
theorem pe_callTy (hc : CallR X (.type T) r) (hg : Gl X x) (hm : X.mg x = none) (hv : bootBuiltins x = some (.type T)) (ha : PA X (e :: es) t) (hn : x ≠ "__name__" := by decide) (hdb : (x == ("__debug__" : Str)) = false := by decide)
    (he : starEach (e :: es) X.env = (false, eval e X.env) :: starEach es X.env := by rfl) (hpl : (backTo pos (starEach es X.env)).any (·.1) = false := by rfl) : PE X (.Call (.Name x p) (e :: es) [] pos) (tCB r t) := by
  intro pins s σ H Q I h
  refine wpAny_Call_Name_kw (ld_blt I hg hm hv ?_ hn hdb)
  exact PyProof.Rows.callWith_type1 (thn (ha pos pins s σ H _ I h) fun us s1 ⟨vs, H1, I1, r1, q1⟩ => hc pins s1 σ H1 vs us Q I1 r1 q1) he hpl
end
end L2

namespace HT
open PySem PyProof.Rows

/-- t < u of tuples of ints -/
def lexLt : List Int → List Int → Bool
  | [], [] => false
  | [], _ :: _ => true
  | _ :: _, [] => false
  | x :: xs, y :: ys => if x = y then lexLt xs ys else decide (x < y)
theorem lexLt_cons (x y : Int) (xs ys : List Int) : lexLt (x :: xs) (y :: ys) = if x = y then lexLt xs ys else decide (x < y) := rfl
theorem lexLt_nil_nil : lexLt [] [] = false := rfl
theorem lexLt_nil_cons (y : Int) (ys : List Int) : lexLt [] (y :: ys) = true := rfl
theorem lexLt_cons_nil (x : Int) (xs : List Int) : lexLt (x :: xs) [] = false := rfl

section
open PySem.SeqAt
open PySem.AutoSeq1 (wpAny_loadPart')
open PySem.MeetsSeq PySem.MeetsSeq2 PySem.MeetsSeq3

end

section
variable {prog : Program} {w : World} {A : Around} {E : Value → Shared → Prop} {s : Shared}

/-- t + u, t not empty -/
theorem cat_tup {t b : Addr} {vs ws : List Value} {Q : Value → Shared → Prop} (ht : IsTup s.heap t vs.toArray) (hb : IsTup s.heap b ws.toArray) (hv : vs ≠ [])
    (h1 : ws = [] → Q (.ref t) s) (h2 : ws ≠ [] → Q (.ref s.heap.objs.size) { s with heap := s.heap.push { cls := .type "tuple", data := .seq (vs ++ ws).toArray } })
    (hsz : vs.length + ws.length ≤ sizeLine) : wpAny (model prog w) A (binaryOp .Add (.ref t) (.ref b)) Q E s := by
  obtain ⟨⟨cls, dd, data, sl⟩, ho, hc, n, hd⟩ := id ht
  obtain ⟨⟨cls2, dd2, data2, sl2⟩, ho2, hc2, n2, hd2⟩ := id hb
  simp only at hc hd hc2 hd2
  subst hc hd hc2 hd2
  have e : vs.toArray ++ ws.toArray = (vs ++ ws).toArray := by simp
  by_cases hw : ws = []
  · exact concat_meets ⟨_, ho, rfl⟩ ⟨_, ho2, rfl⟩ noFill_tuple_add seq_tuple_add PySem.F.slot_tuple_add PySem.F.entry_tuple_add (PySem.F.args_tuple_add_2 _ _)
      (tuple_addW1 t b vs.toArray ws.toArray n n2 dd dd2 sl sl2 (by simpa using hv) (by simp [hw])) ⟨ho, ho2, h1 hw⟩
  · refine concat_meets ⟨_, ho, rfl⟩ ⟨_, ho2, rfl⟩ noFill_tuple_add seq_tuple_add PySem.F.slot_tuple_add PySem.F.entry_tuple_add (PySem.F.args_tuple_add_2 _ _)
      (tuple_addW2 t b vs.toArray ws.toArray n n2 dd dd2 sl sl2 (by simpa using hv) (by simpa using hw) (by rw [List.size_toArray, List.size_toArray]; exact hsz)) ⟨ho, ho2, ?_⟩
    rw [e]
    exact h2 hw

/-! ### t[a:b], not the whole -/
/-- a slice's bound as a place among n (d where it is left out) -/
def sIx (n d : Nat) : Option Int → Nat
  | none => d
  | some v => if v < 0 then (v + (n : Int)).toNat else min v.toNat n
theorem sIx_none (n d : Nat) : sIx n d none = d := rfl
theorem sIx_le (n d : Nat) (hd : d ≤ n) (o : Option Int) : sIx n d o ≤ n := by
  cases o with
  | none => exact hd
  | some v =>
    show (if v < 0 then (v + (n : Int)).toNat else min v.toNat n) ≤ n
    by_cases hv : v < 0
    · rw [if_pos hv]; omega
    · rw [if_neg hv]; exact Nat.min_le_right _ _
theorem clip_eq (v : Int) (n d : Nat) : (if v < 0 then max (v + (n : Int)) 0 else min v (n : Int)) = ((sIx n d (some v) : Nat) : Int) := by
  show (if v < 0 then max (v + (n : Int)) 0 else min v (n : Int)) = (((if v < 0 then (v + (n : Int)).toNat else min v.toNat n) : Nat) : Int)
  by_cases hv : v < 0
  · simp only [if_pos hv]; omega
  · simp only [if_neg hv]; omega
theorem adjust_gen (lo hi : Option Int) (n : Nat) : Builtin.Slice.sliceAdjust lo hi 1 (n : Int) = (((sIx n 0 lo : Nat) : Int), ((sIx n n hi : Nat) : Int)) := by
  have h1 : ¬ ((1 : Int) < 0) := by omega
  unfold Builtin.Slice.sliceAdjust
  simp only [h1, if_false]
  refine Prod.ext ?_ ?_
  · cases lo with
    | none => rfl
    | some v => exact clip_eq v n 0
  · cases hi with
    | none => rfl
    | some v => exact clip_eq v n n
theorem places_gen (i j : Nat) : Builtin.Slice.slicePlaces (i : Int) (j : Int) 1 = j - i := by
  unfold Builtin.Slice.slicePlaces
  have h1 : (1 : Int) > 0 := by omega
  simp only [h1, if_true, Int.ediv_one]
  split <;> omega
theorem slicePart_ {v : Value} {o : Option Int} {Q : Option Int → Shared → Prop} (p : IsPart v o) (h : Q o s) : wpAny (model prog w) A (Builtin.Slice.slicePartIndex v) Q E s := by
  cases p with
  | none => exact slicePart_none h
  | int i t => exact slicePart_int h
theorem sliceApplied_gen {sl : Addr} {vl vu : Value} {lo hi : Option Int} {n : Nat} {Q : Int × Int × Nat → Shared → Prop} (hs : s.heap.IsSliceOf sl vl vu .none) (pl : IsPart vl lo) (pu : IsPart vu hi)
    (h : Q (((sIx n 0 lo : Nat) : Int), 1, sIx n n hi - sIx n 0 lo) s) : wpAny (model prog w) A (Builtin.Slice.sliceApplied (.ref sl) (pure (n : Int))) Q E s := by
  obtain ⟨os, hos, hcs, hds⟩ := id hs
  unfold Builtin.Slice.sliceApplied Builtin.Slice.sliceFields
  refine wpAny_bind (wpAny_bind (wpAny_field hos hds (x := vl) rfl (wpAny_bind (wpAny_field hos hds (x := vu) rfl (wpAny_bind (wpAny_field hos hds (x := .none) rfl (wpAny_pure ?_)))))))
  refine wpAny_bind (slicePart_none ?_)
  show wpAny _ _ (if ((1 : Int) == 0) = true then _ else _) _ _ s
  rw [if_neg (by decide)]
  refine wpAny_bind (slicePart_ pl (wpAny_bind (slicePart_ pu (wpAny_bind (wpAny_pure ?_)))))
  show wpAny _ _ (match Builtin.Slice.sliceAdjust lo hi 1 (n : Int) with | (lo, hi) => pure (lo, (1 : Int), Builtin.Slice.slicePlaces lo hi 1)) _ _ s
  rw [adjust_gen lo hi n]
  show wpAny _ _ (pure (((sIx n 0 lo : Nat) : Int), (1 : Int), Builtin.Slice.slicePlaces ((sIx n 0 lo : Nat) : Int) ((sIx n n hi : Nat) : Int) 1)) _ _ s
  rw [places_gen]
  exact wpAny_pure h
theorem pick_gen (xs : Array Value) (i k : Nat) : ((List.range k).filterMap fun (m : Nat) => xs[((i : Int) + (m : Int) * 1).toNat]?).toArray = ((xs.toList.drop i).take k).toArray := by
  have e : (fun (m : Nat) => xs[((i : Int) + (m : Int) * 1).toNat]?) = fun m => xs[i + m]? := by
    funext m
    have : ((i : Int) + (m : Int) * 1).toNat = i + m := by omega
    rw [this]
  rw [e]
  have := pick_run xs i k
  rw [List.filterMap_map] at this
  have e2 : ((fun x => xs[x]?) ∘ fun x => i + x) = fun m => xs[i + m]? := rfl
  rw [e2] at this
  rw [this]

theorem getItem_tuple_cut {t sl : Addr} {items : Array Value} {vl vu : Value} {lo hi : Option Int} {Q : Value → Shared → Prop} (ht : IsTup s.heap t items) (hs : s.heap.IsSliceOf sl vl vu .none) (pl : IsPart vl lo) (pu : IsPart vu hi)
    (hw : ¬ (sIx items.size 0 lo = 0 ∧ sIx items.size items.size hi = items.size))
    (h : Q (.ref s.heap.objs.size) { s with heap := s.heap.push { cls := .type "tuple", data := .seq ((items.toList.drop (sIx items.size 0 lo)).take (sIx items.size items.size hi - sIx items.size 0 lo)).toArray } })
    (hsz : items.size ≤ sizeLine) : wpAny (model prog w) A (getItem (.ref t) (.ref sl)) Q E s := by
  have htake : sizeOk (.seq ((items.toList.drop (sIx items.size 0 lo)).take (sIx items.size items.size hi - sIx items.size 0 lo)).toArray) := by
    show ((items.toList.drop (sIx items.size 0 lo)).take (sIx items.size items.size hi - sIx items.size 0 lo)).toArray.size ≤ sizeLine
    rw [List.size_toArray, List.length_take, List.length_drop, Array.length_toList]
    omega
  have hj : sIx items.size items.size hi ≤ items.size := sIx_le _ _ (Nat.le_refl _) hi
  obtain ⟨os, hos, hcs, hds⟩ := id hs
  have hTs : s.TypeIs (.ref sl) "slice" := ⟨os, hos, hcs⟩
  unfold getItem
  try with_reducible refine wpAny_holding ?_
  first | refine wpAny_bind (wpAny_pure ?_) | skip
  refine wpAny_bind (wpAny_sequenceKey ht.typeIs (by decide) ?_)
  refine wpAny_bind (wpAny_callSpecial?_slot (name := Str.ofString "__getitem__") ht.typeIs PyProof.Rows.slot_tuple_getitem
    (wpAny_call_entry PyProof.Rows.slot_tuple_getitem ht.typeIs entry_tuple_getitem ?_ (args_tuple_getitem _ _)))
  show wpAny _ _ (Builtin.Tuple.tupleItemsOf (.ref t) >>= _) _ _ s
  refine wpAny_bind (tupleItemsOf_ ht ?_)
  refine wpAny_bind (wpAny_typeOf hTs ?_)
  rw [if_pos (by decide)]
  refine wpAny_bind (sliceApplied_gen hs pl pu ?_)
  have hno : ¬ ((((sIx items.size 0 lo : Nat) : Int) == 0 && (1 : Int) == 1 && (sIx items.size items.size hi - sIx items.size 0 lo) == items.size) = true) := by
    intro q
    rw [Bool.and_eq_true, Bool.and_eq_true] at q
    have q1 : ((sIx items.size 0 lo : Nat) : Int) = 0 := eq_of_beq q.1.1
    have q2 : sIx items.size items.size hi - sIx items.size 0 lo = items.size := eq_of_beq q.2
    exact hw ⟨by omega, by omega⟩
  show wpAny _ _ (if (((sIx items.size 0 lo : Nat) : Int) == 0 && (1 : Int) == 1 && (sIx items.size items.size hi - sIx items.size 0 lo) == items.size) = true then _ else _) _ _ s
  rw [if_neg hno, pick_gen]
  first
    | exact wpAny_bind (m := Builtin.Tuple.tupleExact _) (wpAny_newObj_type (wpAny_pure ⟨_, rfl, wpAny_pure h⟩) htake)
    | exact wpAny_bind (m := Builtin.Tuple.tupleExact _) (wpAny_newObj_type (wpAny_bind (wpAny_pure (wpAny_pure ⟨_, rfl, wpAny_pure h⟩))) htake)
    | exact wpAny_bind (wpAny_bind (m := Builtin.Tuple.tupleExact _) (wpAny_newObj_type (wpAny_pure (wpAny_pure ⟨_, rfl, wpAny_pure h⟩)) htake))
    | exact wpAny_bind (wpAny_bind (m := Builtin.Tuple.tupleExact _) (wpAny_newObj_type (wpAny_pure ⟨_, rfl, wpAny_pure h⟩) htake))
end
end HT

namespace L2
open PySem PySem.Spec PyProof.Rows

/-! ### the parts of a slice -/
abbrev TO := St → Hp → (Option Int → Hp → Prop) → Prop
/-- a slice's part (left out, or an int) -/
def PO (X : Cx) (e : Option Expr) (t : TO) : Prop :=
  ∀ (pins : List (Addr × Obj)) (s : Shared) (σ : St) (H : Hp) (Q : Option Int → Hp → Prop), Inv X pins σ H s → t σ H Q →
    wpAny (model X.prog X.w) X.A (evalPart e X.env) (fun u s' => ∃ o H', Inv X pins σ H' s' ∧ IsPart u o ∧ Q o H') X.xe s
def tNoPart : TO := fun _ H Q => Q none H
def tPart (t : TE) : TO := fun σ H Q => t σ H fun x H1 => ∃ i, x = .int i ∧ Q (some i) H1

theorem intsAre_of {ns : List Int} : ∀ {us : List Value}, Vals (ns.map V.int) us → IntsAre us ns := by
  induction ns with
  | nil => intro us r; rw [List.map_nil] at r; cases r; exact .nil
  | cons n ns ih =>
    intro us r
    rw [List.map_cons] at r
    cases r with
    | cons r1 r2 =>
      obtain ⟨t, e⟩ := r1
      subst e
      exact .cons n t (ih r2)

section
variable {X : Cx} {e : Expr} {te : TE} {lo hi : Option Expr} {tl th : TO} {pos p2 : Pos}

theorem po_none : PO X none tNoPart := by
  intro pins s σ H Q I h
  rw [evalPart_none]
  exact wpAny_pure ⟨none, H, I, .none, h⟩
theorem po_some (h : PE X e te) : PO X (some e) (tPart te) := by
  intro pins s σ H Q I hw
  rw [evalPart_some]
  refine thn (h pins s σ H _ I hw) fun u s1 ⟨x, H1, I1, r1, q1⟩ => ?_
  obtain ⟨i, rfl, q⟩ := q1
  obtain ⟨t, rfl⟩ := r1
  exact ⟨some i, H1, I1, .int i t, q⟩

/-- what a slice of a value is, by values: the slice object stands at sl -/
def SlR (X : Cx) (r : V → Option Int → Option Int → Hp → VK → Prop) : Prop :=
  ∀ (pins : List (Addr × Obj)) (s : Shared) (σ : St) (H : Hp) (x : V) (v vl vu : Value) (lo hi : Option Int) (sl : Addr) (Q : VK), Inv X pins σ H s → RelV x v → s.heap.IsSliceOf sl vl vu .none → IsPart vl lo → IsPart vu hi → r x lo hi H Q →
    ∃ T id, typeLookup (.type T) "__getitem__" = pure (some (.builtin id)) ∧ s.TypeIs v T ∧ wpAny (model X.prog X.w) X.A (getItem v (.ref sl)) (EP X pins σ Q) X.xe s
theorem SlR.or {r r' : V → Option Int → Option Int → Hp → VK → Prop} (h : SlR X r) (h' : SlR X r') : SlR X (fun x lo hi H Q => r x lo hi H Q ∨ r' x lo hi H Q) := by
  intro pins s σ H x v vl vu lo hi sl Q I rx hs pl pu q
  rcases q with q | q
  · exact h pins s σ H x v vl vu lo hi sl Q I rx hs pl pu q
  · exact h' pins s σ H x v vl vu lo hi sl Q I rx hs pl pu q
def tSl (r : V → Option Int → Option Int → Hp → VK → Prop) (te : TE) (tl th : TO) : TE := fun σ H Q => te σ H fun x H1 => tl σ H1 fun l H2 => th σ H2 fun u H3 => r x l u H3 Q
/-- a[lo:hi], any a -/
theorem pe_slice {r : V → Option Int → Option Int → Hp → VK → Prop} (hr : SlR X r) (he : PE X e te) (hl : PO X lo tl) (hu : PO X hi th) : PE X (.Subscript e (.Slice lo hi none p2) pos) (tSl r te tl th) := by
  intro pins s σ H Q I h
  refine Subscript_ (thn (he pins s σ H _ I h) fun v s1 ⟨x, H1, I1, r1, q1⟩ => ?_)
  refine wpAny_Slice (thn (hl pins s1 σ H1 _ I1 q1) fun vl s2 ⟨l, H2, I2, pl, q2⟩ => thn (hu pins s2 σ H2 _ I2 q2) fun vu s3 ⟨u, H3, I3, pu, q3⟩ => ?_)
  rw [evalPart_none]
  refine wpAny_pure ?_
  have I4 : Inv X pins σ H3 { s3 with heap := s3.heap.push { cls := .type "slice", data := .fields #[vl, vu, .none] } } := I3.kept (t' := s3.toks) fun b ob q => Heap.get?_push_of_some _ q
  obtain ⟨T, id, hT, ht, hg⟩ := hr pins { s3 with heap := s3.heap.push { cls := .type "slice", data := .fields #[vl, vu, .none] } } σ H3 x v vl vu l u s3.heap.objs.size Q I4 r1 (Heap.IsSliceOf.new ..) pl pu q3
  show wpAny (model X.prog X.w) X.A (subscriptTail e (.Slice lo hi none p2) v (.ref s3.heap.objs.size)) (EP X pins σ Q) X.xe { s3 with heap := s3.heap.push { cls := .type "slice", data := .fields #[vl, vu, .none] } }
  exact tail_any (ops := [.ref s3.heap.objs.size, v]) ht hT hg (by with_unfolding_all rfl)

/-- the items of xs[lo:hi] -/
def cutV (xs : List V) (lo hi : Option Int) : List V := (xs.drop (HT.sIx xs.length 0 lo)).take (HT.sIx xs.length xs.length hi - HT.sIx xs.length 0 lo)
theorem cutV_length (xs : List V) (lo hi : Option Int) : (cutV xs lo hi).length ≤ xs.length := by
  unfold cutV
  rw [List.length_take, List.length_drop]
  omega
/-- t[lo:hi], not the whole of it (the whole would be t itself) -/
def rSlT (K : PySem.W.Frag) : V → Option Int → Option Int → Hp → VK → Prop := fun x lo hi H Q => ∃ a xs, x = .ref a ∧ SqT K H a xs ∧
  ¬ (HT.sIx xs.length 0 lo = 0 ∧ HT.sIx xs.length xs.length hi = xs.length) ∧ ∀ p, H p = none → Q (.ref p) (upd H p (.tup (cutV xs lo hi)))
theorem sl_tup : SlR X (rSlT X.K) := by
  intro pins s σ H x v vl vu lo hi sl Q I rx hs pl pu h
  obtain ⟨a, xs, rfl, hx, hw, q⟩ := h
  cases rx
  obtain ⟨its, r, ht, hz⟩ := I.tuple hx
  have hlen : its.toArray.size = xs.length := by rw [List.size_toArray]; exact r.length.symm
  refine ⟨"tuple", _, PyProof.Rows.slot_tuple_getitem.lookup, ht.typeIs, ?_⟩
  refine HT.getItem_tuple_cut ht hs pl pu (by rw [hlen]; exact hw) ?_ (by rw [hlen]; exact hz)
  rw [hlen]
  refine ⟨.ref s.heap.objs.size, _, I.laid (t' := s.toks) (o := .tup (cutV xs lo hi)) (fun b ob q => Heap.get?_push_of_some _ q) (Nat.le_refl _) ?_, rfl, q _ (I.hok.fresh (Nat.le_refl _))⟩
  exact ⟨Nat.le_trans (cutV_length xs lo hi) hz, _, (r.drop (HT.sIx xs.length 0 lo)).take (HT.sIx xs.length xs.length hi - HT.sIx xs.length 0 lo), IsTup.new _ _⟩

/-! ### t < u, t + u -/
def rLtT (K : PySem.W.Frag) : R2 := fun x y H Q => ∃ a b ns ms, x = .ref a ∧ y = .ref b ∧ SqT K H a (ns.map V.int) ∧ SqT K H b (ms.map V.int) ∧ Q (.bl (HT.lexLt ns ms)) H
/-- t + u, t not empty: u empty gives t itself -/
def rCatT (K : PySem.W.Frag) : R2 := fun x y H Q => ∃ a b xs ys, x = .ref a ∧ y = .ref b ∧ SqT K H a xs ∧ SqT K H b ys ∧ xs ≠ [] ∧ xs.length + ys.length ≤ sizeLine ∧
  (ys = [] → Q (.ref a) H) ∧ (ys ≠ [] → ∀ p, H p = none → Q (.ref p) (upd H p (.tup (xs ++ ys))))
theorem Vals.nil_iff {xs : List V} {us : List Value} (r : Vals xs us) : us = [] ↔ xs = [] := by
  cases r with
  | nil => simp
  | cons _ _ => simp
theorem op_catT : OpR X (binaryOp .Add) (rCatT X.K) := by
  intro pins s σ H x y v u Q I rx ry h
  obtain ⟨a, b, xs, ys, rfl, rfl, ha, hb, hx, hz, q1, q2⟩ := h
  cases rx
  cases ry
  obtain ⟨its, r1, p1, _⟩ := I.tuple ha
  obtain ⟨its2, r2, p2, _⟩ := I.tuple hb
  refine HT.cat_tup p1 p2 (fun z => hx (r1.nil_iff.mp z)) (fun z => ⟨.ref a, H, I, rfl, q1 (r2.nil_iff.mp z)⟩) (fun z => ?_) (by rw [← r1.length, ← r2.length]; exact hz)
  refine ⟨.ref s.heap.objs.size, _, I.laid (t' := s.toks) (o := .tup (xs ++ ys)) (fun b ob q => Heap.get?_push_of_some _ q) (Nat.le_refl _) ?_, rfl, q2 (fun w => z (r2.nil_iff.mpr w)) _ (I.hok.fresh (Nat.le_refl _))⟩
  exact ⟨by rw [List.length_append]; exact hz, _, r1.append r2, IsTup.new _ _⟩
end
end L2

namespace L2
open PySem PySem.Spec PyProof.Rows

/-! ### places -/
/-- the place that an index of any sign means -/
def ixN (n : Nat) (i : Int) : Option Nat := if 0 ≤ i then (if i < n then some i.toNat else none) else if -(n : Int) ≤ i then some (i + n).toNat else none
def atI {α : Type} (xs : List α) (i : Int) : Option α := (ixN xs.length i).bind fun j => xs[j]?
theorem ixN_seq {n : Nat} {i : Int} {j : Nat} (h : ixN n i = some j) : seqIndex? i n = some j ∧ j < n ∧ -(n : Int) ≤ i ∧ i < n := by
  unfold ixN at h
  by_cases h0 : 0 ≤ i
  · rw [if_pos h0] at h
    by_cases h1 : i < n
    · rw [if_pos h1] at h
      have e : i.toNat = j := Option.some.inj h
      exact ⟨by rw [seqIndex_of h0 h1, e], by omega, by omega, h1⟩
    · rw [if_neg h1] at h; cases h
  · rw [if_neg h0] at h
    by_cases h1 : -(n : Int) ≤ i
    · rw [if_pos h1] at h
      have e : (i + n).toNat = j := Option.some.inj h
      exact ⟨by rw [seqIndex_neg (by omega) h1, e], by omega, h1, by omega⟩
    · rw [if_neg h1] at h; cases h
theorem atI_get {α : Type} {xs : List α} {i : Int} {v : α} (h : atI xs i = some v) : ∃ j, seqIndex? i xs.length = some j ∧ xs[j]? = some v ∧ j < xs.length ∧ -(xs.length : Int) ≤ i ∧ i < xs.length := by
  unfold atI at h
  cases e : ixN xs.length i with
  | none => rw [e] at h; cases h
  | some j =>
    rw [e] at h
    obtain ⟨h1, h2, h3, h4⟩ := ixN_seq e
    exact ⟨j, h1, h, h2, h3, h4⟩
/-! ### what may be subscripted -/
/-- what stands as an index of a plain subscript -/
def PlainIx (b : Expr) : Prop := ∀ o i, subscripted b false o i = operate [o, i] (getItem o i)
/-- a subscript by values -/
def IxR (X : Cx) (r : R2) : Prop :=
  ∀ (value slice : Expr) (pins : List (Addr × Obj)) (s : Shared) (σ : St) (H : Hp) (x y : V) (v u : Value) (Q : VK), Inv X pins σ H s → RelV x v → RelV y u → r x y H Q →
    subscripted slice false v u = operate [v, u] (getItem v u) → wpAny (model X.prog X.w) X.A (subscriptTail value slice v u) (EP X pins σ Q) X.xe s
/-- a call of a builtin's method by values: the receiver, the arguments -/
def MtR (X : Cx) (id : String) (r : V → List V → Hp → VK → Prop) : Prop :=
  ∀ (pins : List (Addr × Obj)) (s : Shared) (σ : St) (H : Hp) (x : V) (xs : List V) (v : Value) (us : List Value) (Q : VK), Inv X pins σ H s → RelV x v → Vals xs us → r x xs H Q →
    wpAny (model X.prog X.w) X.A (call (.builtin id) (v :: us)) (EP X pins σ Q) X.xe s
section
variable {X : Cx} {a b : Expr} {ta tb : TE} {pos : Pos}
theorem IxR.or {r r' : R2} (h : IxR X r) (h' : IxR X r') : IxR X (fun x y H Q => r x y H Q ∨ r' x y H Q) := by
  intro value slice pins s σ H x y v u Q I rx ry q hs
  rcases q with q | q
  · exact h value slice pins s σ H x y v u Q I rx ry q hs
  · exact h' value slice pins s σ H x y v u Q I rx ry q hs
theorem MtR.or {id : String} {r r' : V → List V → Hp → VK → Prop} (h : MtR X id r) (h' : MtR X id r') : MtR X id (fun x xs H Q => r x xs H Q ∨ r' x xs H Q) := by
  intro pins s σ H x xs v us Q I rx rs q
  rcases q with q | q
  · exact h pins s σ H x xs v us Q I rx rs q
  · exact h' pins s σ H x xs v us Q I rx rs q
/-- a[b] -/
theorem pe_ix {r : R2} (hr : IxR X r) (ha : PE X a ta) (hb : PE X b tb) (hs : PlainIx b) : PE X (.Subscript a b pos) (tOp r ta tb) := by
  intro pins s σ H Q I h
  exact Subscript_ (binT ha hb I h fun v u s2 x y H2 I2 rx ry q => hr a b pins s2 σ H2 x y v u Q I2 rx ry q (hs _ _))

def rIxL (K : PySem.W.Frag) : R2 := fun x y H Q => ∃ p xs i v, x = .ref p ∧ y = .int i ∧ SqL K H p xs ∧ atI xs i = some v ∧ Q v H
def rIxT (K : PySem.W.Frag) : R2 := fun x y H Q => ∃ p xs i v, x = .ref p ∧ y = .int i ∧ SqT K H p xs ∧ atI xs i = some v ∧ Q v H
def rIxS : R2 := fun x y H Q => ∃ z i c, x = .str z ∧ y = .int i ∧ z.length ≤ sizeLine ∧ atI z.cps.toList i = some c ∧ Q (.str ⟨#[c]⟩) H
theorem ix_list : IxR X (rIxL X.K) := by
  intro value slice pins s σ H x y v u Q I rx ry h hs
  obtain ⟨p, xs, i, z, rfl, rfl, hq, he, q⟩ := h
  cases rx
  obtain ⟨t, rfl⟩ := ry
  obtain ⟨its, r, pl, hz⟩ := I.list hq
  obtain ⟨j, h1, h2, h3, h4, h5⟩ := atI_get he
  obtain ⟨w, ew, rw'⟩ := r.get h2
  have hl := r.length
  have hn := line63
  have fin : EP X pins σ Q w s := ⟨z, H, I, rw', q⟩
  by_cases h0 : 0 ≤ i
  · have hj : i.toNat = j := by
      rw [seqIndex_of h0 h5] at h1
      exact Option.some.inj h1
    exact item_listR pl.isList h0 (by omega) (by rw [hj]; simpa using ew) fin hs
  · have hj : (i + (its.toArray.size : Int)).toNat = j := by
      rw [seqIndex_neg (by omega) h4] at h1
      rw [List.size_toArray, ← hl]
      exact Option.some.inj h1
    exact subscriptTail_builtinR (x := w) pl.isList.typeIs slot_list_getitem.lookup
      (wpAny_getItem_list_neg (Q := fun r s' => r = w ∧ EP X pins σ Q r s') pl.isList (by omega) (by rw [List.size_toArray] <;> omega) (by omega) (by rw [hj]; simpa using ew) ⟨rfl, fin⟩) hs
theorem ix_tup : IxR X (rIxT X.K) := by
  intro value slice pins s σ H x y v u Q I rx ry h hs
  obtain ⟨p, xs, i, z, rfl, rfl, hq, he, q⟩ := h
  cases rx
  obtain ⟨t, rfl⟩ := ry
  obtain ⟨its, r, pl, hz⟩ := I.tuple hq
  obtain ⟨j, h1, h2, h3, h4, h5⟩ := atI_get he
  obtain ⟨w, ew, rw'⟩ := r.get h2
  have hl := r.length
  have hn := line63
  have fin : EP X pins σ Q w s := ⟨z, H, I, rw', q⟩
  exact subscriptTail_builtinR (x := w) pl.typeIs slot_tuple_getitem.lookup
    (getItem_tuple (j := j) (Q := fun r s' => r = w ∧ EP X pins σ Q r s') pl (by omega) (by omega) (by rw [List.size_toArray, ← hl]; exact h1) (by simpa using ew) ⟨rfl, fin⟩) hs
theorem ix_str : IxR X rIxS := by
  intro value slice pins s σ H x y v u Q I rx ry h hs
  obtain ⟨z, i, c, rfl, rfl, hz, he, q⟩ := h
  obtain ⟨t, rfl⟩ := rx
  obtain ⟨t', rfl⟩ := ry
  obtain ⟨j, h1, h2, h3, h4, h5⟩ := atI_get he
  have hl : z.cps.toList.length = z.length := by simp [Str.length]
  rw [hl] at h1 h4 h5
  have hn := line63
  exact tail_any (typeIs_str s z t) slot_str_getitem.lookup (getItem_str (c := c) (by
    have e1 : decide (i < -(2 ^ 63 : Int)) = false := decide_eq_false (by omega)
    have e2 : decide (i ≥ 2 ^ 63) = false := decide_eq_false (by omega)
    rw [e1, e2, Bool.or_false]) (by rw [h1]; simpa using h2) ⟨.str ⟨#[c]⟩, H, I.tok _, ⟨_, rfl⟩, q⟩) hs
/-- list, tuple or str -/
def rIx (K : PySem.W.Frag) : R2 := fun x y H Q => rIxL K x y H Q ∨ rIxT K x y H Q ∨ rIxS x y H Q
theorem ix_seq : IxR X (rIx X.K) := ix_list.or (ix_tup.or ix_str)

/-! ### xs[i] = v, any sign -/
/-- the list's object behind a store -/
theorem mapSeq_set (its : List Value) (n j : Nat) (u : Value) : Obj.mapSeq (·.setIfInBounds j u) { cls := .type "list", data := .seq its.toArray n } = { cls := .type "list", data := .seq (its.set j u).toArray n } := by
  simp [Obj.mapSeq]
theorem Inv.lst {pins : List (Addr × Obj)} {σ : St} {H : Hp} {s : Shared} {p : Addr} {xs : List V} (I : Inv X pins σ H s) (h : H p = some (.lst xs)) :
    ∃ (its : List Value) (n : Nat), Vals xs its ∧ s.heap.get? p = some { cls := .type "list", data := .seq its.toArray n } ∧ xs.length ≤ sizeLine := by
  obtain ⟨z, its, n, r, e⟩ := I.hok p _ h
  exact ⟨its, n, r, e, z⟩
/-- the list at p is written by an update of its object -/
theorem Inv.lstUpd {pins : List (Addr × Obj)} {σ : St} {H : Hp} {s : Shared} {p : Addr} {xs ys : List V} {its its' : List Value} {n n' : Nat} {f : Obj → Obj} (I : Inv X pins σ H s) (h : H p = some (.lst xs))
    (ho : s.heap.get? p = some { cls := .type "list", data := .seq its.toArray n }) (hf : f { cls := .type "list", data := .seq its.toArray n } = { cls := .type "list", data := .seq its'.toArray n' }) (r : Vals ys its') (hz : ys.length ≤ sizeLine) (t : Nat) :
    Inv X pins σ (upd H p (.lst ys)) { s with heap := s.heap.update p f, toks := t } := by
  have e : (s.heap.update p f).get? p = some { cls := .type "list", data := .seq its'.toArray n' } := by
    rw [Heap.get?_update_self f ho (by rw [hf] <;> rfl), hf]
  refine I.write (x := p) (e := p) (by rw [h]; trivial) (.inl rfl) (fun b u hb q => (Heap.get?_update_other _ _ (Ne.symm hb)).trans q) ⟨_, e⟩ ?_
  exact ⟨hz, its', n', r, e⟩
def rSetL : V → V → V → Hp → (Hp → Prop) → Prop := fun o i v H Q => ∃ p xs k j, o = .ref p ∧ i = .int k ∧ H p = some (.lst xs) ∧ ixN xs.length k = some j ∧ Q (upd H p (.lst (xs.set j v)))
theorem set_list : PSet X rSetL := by
  intro pins s σ H o i v ov iv u Q I ro ri rv h
  obtain ⟨p, xs, k, j, rfl, rfl, hp, hj, q⟩ := h
  cases ro
  obtain ⟨t, rfl⟩ := ri
  obtain ⟨its, n, r, ho, hz⟩ := I.lst hp
  obtain ⟨h1, h2, h3, h4⟩ := ixN_seq hj
  have hl := r.length
  have hn := line63
  have I' : Inv X pins σ (upd H p (.lst (xs.set j v))) { s with heap := s.heap.update p (Obj.mapSeq (·.setIfInBounds j u)) } :=
    I.lstUpd hp ho (mapSeq_set its n j u) (r.set rv j) (by rw [List.length_set]; exact hz) s.toks
  by_cases h0 : 0 ≤ k
  · have hk : k.toNat = j := by
      rw [seqIndex_of h0 h4] at h1
      exact Option.some.inj h1
    exact PySem.W.ki_setAt ho h0 (by omega) (by rw [List.size_toArray, ← hl]; exact h4) (by rw [hk]; exact ⟨_, I', q⟩)
  · have hk : (k + (its.toArray.size : Int)).toNat = j := by
      rw [seqIndex_neg (by omega) h3] at h1
      rw [List.size_toArray, ← hl]
      exact Option.some.inj h1
    exact PySem.W.ki_setBack ho (by omega) (by rw [List.size_toArray, ← hl]; exact h3) (by omega) (by rw [hk]; exact ⟨_, I', q⟩)

/-! ### slices -/
theorem slice_bounds (lo hi : Option Int) (n : Nat) : (sliceBounds lo hi none n).1 = ((HT.sIx n 0 lo : Nat) : Int) ∧ (sliceBounds lo hi none n).2.1 = ((HT.sIx n n hi : Nat) : Int) ∧ (sliceBounds lo hi none n).2.2 = 1 := by
  refine ⟨?_, ?_, rfl⟩
  · cases lo with
    | none => simp [sliceBounds, HT.sIx]
    | some i =>
      simp only [sliceBounds, HT.sIx, Option.getD_none, show (1 : Int) > 0 by decide, if_true]
      by_cases h : i < 0
      · simp only [h, if_true] <;> omega
      · simp only [h, if_false] <;> omega
  · cases hi with
    | none => simp [sliceBounds, HT.sIx]
    | some i =>
      simp only [sliceBounds, HT.sIx, Option.getD_none, show (1 : Int) > 0 by decide, if_true]
      by_cases h : i < 0
      · simp only [h, if_true] <;> omega
      · simp only [h, if_false] <;> omega
theorem slicePick_cut (its : List Value) (lo hi : Option Int) : slicePick its.toArray lo hi none = ((its.drop (HT.sIx its.length 0 lo)).take (HT.sIx its.length its.length hi - HT.sIx its.length 0 lo)).toArray := by
  obtain ⟨h1, h2, h3⟩ := slice_bounds lo hi its.toArray.size
  unfold slicePick
  rw [h1, h2, h3]
  simp only [sliceRange_one, pick_run, List.size_toArray] <;> rfl
/-- xs[lo:hi] of a list: a new list -/
def rSlL (K : PySem.W.Frag) : V → Option Int → Option Int → Hp → VK → Prop := fun x lo hi H Q => ∃ a xs, x = .ref a ∧ SqL K H a xs ∧ ∀ p, H p = none → Q (.ref p) (upd H p (.lst (cutV xs lo hi)))
theorem sl_list : SlR X (rSlL X.K) := by
  intro pins s σ H x v vl vu lo hi sl Q I rx hs pl pu h
  obtain ⟨a, xs, rfl, hx, q⟩ := h
  cases rx
  obtain ⟨its, r, ht, hz⟩ := I.list hx
  have hlen := r.length
  refine ⟨"list", _, slot_list_getitem.lookup, ht.isList.typeIs, ?_⟩
  refine wpAny_getItem_list_slice ht.isList hs pl pu .none (by simp) ?_ (by rw [List.size_toArray] <;> omega)
  rw [slicePick_cut, ← hlen]
  refine ⟨.ref s.heap.objs.size, _, I.laid (t' := s.toks) (o := .lst (cutV xs lo hi)) (fun b ob q => Heap.get?_push_of_some _ q) (Nat.le_refl _) ?_, rfl, q _ (I.hok.fresh (Nat.le_refl _))⟩
  exact ⟨Nat.le_trans (cutV_length xs lo hi) hz, _, 0, (r.drop (HT.sIx xs.length 0 lo)).take (HT.sIx xs.length xs.length hi - HT.sIx xs.length 0 lo), Heap.get?_push_size _ rfl⟩

/-! ### in, not in: flat items -/
def flatV : V → Bool
  | .non => true
  | .bl _ => true
  | .int _ => true
  | .str _ => true
  | _ => false
/-- == of flat values -/
def eqV : V → V → Bool
  | .non, .non => true
  | .bl a, .bl b => a == b
  | .bl a, .int b => (if a then 1 else 0) == b
  | .int a, .bl b => a == (if b then 1 else 0)
  | .int a, .int b => a == b
  | .str a, .str b => a == b
  | _, _ => false
theorem eqAt_V {A : Around} {s : Shared} {y x : V} {u v : Value} (ry : RelV y u) (rx : RelV x v) (fy : flatV y = true) (fx : flatV x = true) : SeqAt.EqAt A s u v (eqV y x) := by
  cases y with
  | non =>
    cases ry
    cases x with
    | non => cases rx; exact SeqAt.EqAt.same _
    | bl b => cases rx; exact SeqAt.EqAt.none_bool b
    | int b => obtain ⟨t, rfl⟩ := rx; exact SeqAt.EqAt.none_int b t
    | str b => obtain ⟨t, rfl⟩ := rx; exact SeqAt.EqAt.none_str b t
    | _ => exact absurd (show false = true from fx) Bool.false_ne_true
  | bl a =>
    cases ry
    cases x with
    | non => cases rx; exact SeqAt.EqAt.bool_none a
    | bl b => cases rx; exact SeqAt.EqAt.bool_bool a b
    | int b => obtain ⟨t, rfl⟩ := rx; exact SeqAt.EqAt.bool_int a b t
    | str b => obtain ⟨t, rfl⟩ := rx; exact SeqAt.EqAt.bool_str a b t
    | _ => exact absurd (show false = true from fx) Bool.false_ne_true
  | int a =>
    obtain ⟨t', rfl⟩ := ry
    cases x with
    | non => cases rx; exact SeqAt.EqAt.int_none a t'
    | bl b => cases rx; exact SeqAt.EqAt.int_bool a t' b
    | int b => obtain ⟨t, rfl⟩ := rx; exact SeqAt.EqAt.int_int a t' b t
    | str b => obtain ⟨t, rfl⟩ := rx; exact SeqAt.EqAt.int_str a t' b t
    | _ => exact absurd (show false = true from fx) Bool.false_ne_true
  | str a =>
    obtain ⟨t', rfl⟩ := ry
    cases x with
    | non => cases rx; exact SeqAt.EqAt.str_none a t'
    | bl b => cases rx; exact SeqAt.EqAt.str_bool a t' b
    | int b => obtain ⟨t, rfl⟩ := rx; exact SeqAt.EqAt.str_int a t' b t
    | str b => obtain ⟨t, rfl⟩ := rx; exact SeqAt.EqAt.str_str a t' b t
    | _ => exact absurd (show false = true from fx) Bool.false_ne_true
  | _ => exact absurd (show false = true from fy) Bool.false_ne_true
/-- the items' answers, read off the values (a value's own answer does not lean on its token) -/
def eqU (x : V) (u : Value) : Bool := match u with
  | .none => eqV .non x
  | .bool b => eqV (.bl b) x
  | .int i _ => eqV (.int i) x
  | .str z _ => eqV (.str z) x
  | _ => false
def inV (x : V) (xs : List V) : Bool := xs.any fun y => eqV y x
/-- x in a list or tuple of flat items -/
def rIn (K : PySem.W.Frag) (neg : Bool) : R2 := fun x y H Q => ∃ p xs, y = .ref p ∧ (SqL K H p xs ∨ SqT K H p xs) ∧ flatV x = true ∧ xs.all flatV = true ∧ Q (.bl (if neg then !inV x xs else inV x xs)) H
/-! ### len, list(x), tuple(x) of any list or tuple that is read -/
theorem call_len_seq : CallR X (.builtin "len") (fun xs H Q => ∃ p ys, xs = [.ref p] ∧ (SqL X.K H p ys ∨ SqT X.K H p ys) ∧ Q (.int ys.length) H) := by
  intro pins s σ H xs us Q I r h
  obtain ⟨p, ys, rfl, hq, q⟩ := h
  obtain ⟨u, rfl, rx⟩ := vals1 r
  cases rx
  have hn := line63
  rcases hq with hq | hq
  · obtain ⟨its, r', pl, hz⟩ := I.list hq
    have hlen := r'.length
    exact Calls.call_len_list pl.isList (by simp only [List.size_toArray] <;> omega) ⟨.int ys.length, H, I.tok _, ⟨s.toks + 1, by rw [List.size_toArray, hlen]⟩, q⟩
  · obtain ⟨its, r', pl, hz⟩ := I.tuple hq
    have hlen := r'.length
    exact len_tuple pl (by simp only [List.size_toArray] <;> omega) ⟨.int ys.length, H, I.tok _, ⟨s.toks + 1, by rw [List.size_toArray, hlen]⟩, q⟩
theorem call_len_str : CallR X (.builtin "len") (fun xs H Q => ∃ z, xs = [.str z] ∧ z.length ≤ sizeLine ∧ Q (.int z.length) H) := by
  intro pins s σ H xs us Q I r h
  obtain ⟨z, rfl, hz, q⟩ := h
  obtain ⟨u, rfl, t, rfl⟩ := vals1 r
  have hn := line63
  exact len_str (by omega) ⟨.int z.length, H, I.tok _, ⟨_, rfl⟩, q⟩
theorem CallR.or {f : Value} {r r' : List V → Hp → VK → Prop} (h : CallR X f r) (h' : CallR X f r') : CallR X f (fun xs H Q => r xs H Q ∨ r' xs H Q) := by
  intro pins s σ H xs us Q I rs q
  rcases q with q | q
  · exact h pins s σ H xs us Q I rs q
  · exact h' pins s σ H xs us Q I rs q
theorem call_tuple_of : CallR X (.type "tuple") (fun xs H Q => ∃ p ys, xs = [.ref p] ∧ ((SqL X.K H p ys ∧ ∀ l, H l = none → Q (.ref l) (upd H l (.tup ys))) ∨ (SqT X.K H p ys ∧ Q (.ref p) H))) := by
  intro pins s σ H xs us Q I r h
  obtain ⟨p, ys, rfl, h⟩ := h
  obtain ⟨u, rfl, rx⟩ := vals1 r
  cases rx
  rcases h with ⟨hq, q⟩ | ⟨hq, q⟩
  · obtain ⟨its, r', pl, hz⟩ := I.list hq
    have hlen := r'.length
    refine call_tuple_list pl.isList (fun h' kp => ?_) (by simp only [List.size_toArray] <;> omega)
    have I1 : Inv X pins σ H { s with heap := h' } := I.kept (t' := s.toks) kp
    have I2 : Inv X pins σ (upd H h'.objs.size (.tup ys)) { s with heap := h'.push { cls := .type "tuple", data := .seq its.toArray } } :=
      I1.laid (t' := s.toks) (fun b o e => Heap.get?_push_of_some _ e) (Nat.le_refl _) (show ObjOk X.prog X.w _ _ _ (.tup ys) from ⟨hz, its, r', IsTup.new _ _⟩)
    exact ⟨.ref h'.objs.size, _, I2, rfl, q _ (I1.hok.fresh (Nat.le_refl _))⟩
  · obtain ⟨its, r', pl, hz⟩ := I.tuple hq
    exact call_tuple_same pl ⟨.ref p, H, I, rfl, q⟩

/-! ### the call of a builtin's method: o.m(..) -/
/-- the value is of that builtin type -/
def tyV (K : PySem.W.Frag) (T : String) (x : V) (H : Hp) : Prop := match x with
  | .str _ => T = "str"
  | .int _ => T = "int"
  | .ref p => (T = "list" ∧ ∃ xs, SqL K H p xs) ∨ (T = "tuple" ∧ ∃ o, K.lookup p = some o ∧ o.cls = .type "tuple" ∧ o.dict = none) ∨
      (T = "dict" ∧ ((∃ kvs, H p = some (.dK kvs)) ∨ ∃ kvs, H p = some (.dT kvs))) ∨ (T = "set" ∧ ∃ S n, H p = some (.set S n))
  | _ => False
theorem tyV_is {pins : List (Addr × Obj)} {σ : St} {H : Hp} {s : Shared} {T : String} {x : V} {v : Value} (I : Inv X pins σ H s) (r : RelV x v) (ty : tyV X.K T x H) :
    s.TypeIs v T ∧ ∀ a, v = .ref a → ∃ ob, s.heap.get? a = some ob ∧ ob.dict = none := by
  cases x with
  | str z =>
    obtain ⟨t, rfl⟩ := r
    cases (show T = "str" from ty)
    exact ⟨typeIs_str s z t, fun _ e => nomatch e⟩
  | int i =>
    obtain ⟨t, rfl⟩ := r
    cases (show T = "int" from ty)
    exact ⟨typeIs_int s i t, fun _ e => nomatch e⟩
  | ref p =>
    cases r
    rcases ty with ⟨rfl, xs, hq⟩ | ⟨rfl, o, hk, hc, hd⟩ | ⟨rfl, hk⟩ | ⟨rfl, S, n, hk⟩
    · obtain ⟨its, _, pl, _⟩ := I.list hq
      refine ⟨pl.isList.typeIs, fun a e => ?_⟩
      cases e
      obtain ⟨o, n, e, c, hd, _⟩ := pl
      exact ⟨o, e, hd⟩
    · refine ⟨⟨o, I.kIn p o hk, hc⟩, fun a e => ?_⟩
      cases e
      exact ⟨o, I.kIn _ o hk, hd⟩
    · have z : ∃ o, s.heap.get? p = some o ∧ o.ExactDict := by
        rcases hk with ⟨kvs, hk⟩ | ⟨kvs, hk⟩
        · obtain ⟨_, _, _, _, o, _, _, e, ex, _⟩ := I.hok p _ hk
          exact ⟨o, e, ex⟩
        · obtain ⟨_, _, _, _, o, _, _, e, ex, _⟩ := I.hok p _ hk
          exact ⟨o, e, ex⟩
      obtain ⟨o, e, ex⟩ := z
      refine ⟨⟨o, e, ex.1⟩, fun a e2 => ?_⟩
      cases e2
      exact ⟨o, e, ex.2.1⟩
    · obtain ⟨o, _, _, _, e, ex, _⟩ := I.hok p _ hk
      refine ⟨⟨o, e, ex.1⟩, fun a e2 => ?_⟩
      cases e2
      exact ⟨o, e, ex.2.1⟩
  | _ => exact False.elim ty
def tBM0 (K : PySem.W.Frag) (T : String) (r : V → List V → Hp → VK → Prop) (to : TE) : TE := fun σ H Q => to σ H fun x H1 => tyV K T x H1 ∧ r x [] H1 Q
def tBM (K : PySem.W.Frag) (T : String) (r : V → List V → Hp → VK → Prop) (to : TE) (t : TA) : TE := fun σ H Q => to σ H fun x H1 => tyV K T x H1 ∧ t σ H1 fun xs H2 => r x xs H2 Q
variable {o e : Expr} {es : List Expr} {to : TE} {t : TA} {name : Str} {apos cpos : Pos} {T id : String} {r : V → List V → Hp → VK → Prop}
theorem pe_bm (pa : PlainAttrs T) (slot : Slot T name id) (hty : typeOf (.builtin id) = pure (.type "method_descriptor")) (hm : MtR X id r) (ho : PE X o to) (ha : PA X (e :: es) t)
    (hbase : attributeBase o name X.env (eval o X.env) = eval o X.env := by rfl)
    (hfew : ((backTo cpos (starEach (e :: es) X.env)).all (fun x => !x.1) && (backToKw cpos (keywordEach [] X.env)).all (fun x => x.1.isSome)
      && decide ((e :: es).length + ([] : List Keyword).length + (if ([] : List Keyword).isEmpty then 0 else 1) < 30)) = true := by rfl)
    (hline : (apos.endLine == cpos.line) = true := by rfl) (hs : starEach (e :: es) X.env = (false, eval e X.env) :: starEach es X.env := by rfl) (hplain : (backTo cpos (starEach es X.env)).any (·.1) = false := by rfl) :
    PE X (.Call (.Attribute o name apos) (e :: es) [] cpos) (tBM X.K T r to t) := by
  intro pins s σ H Q I h
  refine wpAny_Call_method_late hbase hfew hline rfl (thn (ho pins s σ H _ I h) fun v s1 ⟨x, H1, I1, r1, ty, q1⟩ => ?_)
  obtain ⟨h1, h2⟩ := tyV_is I1 r1 ty
  refine ⟨T, id, pa, slot, hty, h1, h2, ?_⟩
  have hA := ha cpos pins s1 σ H1 _ I1 q1
  rw [hs] at hA ⊢
  refine Calls.callWith_builtin (by show (false || (backTo cpos (starEach es X.env)).any (·.1)) = false; rw [hplain] <;> rfl) (Calls.evalArgs_plain ?_)
  exact thn hA fun us s2 ⟨vs, H2, I2, r2, q2⟩ => hm pins s2 σ H2 x vs v us Q I2 r1 r2 q2
/- xs.append(e), list.index on a module's tuple .. are MtR facts of 06m -/
end
end L2

namespace L2
open PySem PySem.Spec PyProof.Rows

def MtM (X : Cx) (id : String) (r : V → List V → Hp → VK → Prop) : Prop :=
  ∀ (pins : List (Addr × Obj)) (s : Shared) (σ : St) (H : Hp) (x : V) (xs : List V) (v : Value) (us : List Value) (Q : VK), Inv X pins σ H s → RelV x v → Vals xs us → r x xs H Q →
    wpAny (model X.prog X.w) X.A (call (.builtin id) (v :: us)) (EP X pins σ Q) X.xe s

/-! ### lists of values -/
theorem Vals.one : ∀ {x : V} {us : List Value}, Vals [x] us → ∃ u, us = [u] ∧ RelV x u
  | _, _, .cons r .nil => ⟨_, rfl, r⟩
theorem Vals.two : ∀ {x y : V} {us : List Value}, Vals [x, y] us → ∃ u v, us = [u, v] ∧ RelV x u ∧ RelV y v
  | _, _, _, .cons r (.cons q .nil) => ⟨_, _, rfl, r, q⟩
theorem Vals.zero : ∀ {us : List Value}, Vals [] us → us = []
  | _, .nil => rfl
theorem Vals.dropLast {xs : List V} {us : List Value} (h : Vals xs us) : Vals xs.dropLast us.dropLast := by
  induction h with
  | nil => exact .nil
  | cons r t ih =>
    cases t with
    | nil => exact .nil
    | cons q t' => exact .cons r ih
theorem Vals.eraseIdx : ∀ {xs : List V} {us : List Value} (i : Nat), Vals xs us → Vals (xs.eraseIdx i) (us.eraseIdx i)
  | _, _, _, .nil => .nil
  | _, _, 0, .cons _ t => t
  | _, _, i + 1, .cons r t => .cons r (Vals.eraseIdx i t)
theorem Vals.reverse {xs : List V} {us : List Value} (h : Vals xs us) : Vals xs.reverse us.reverse := by
  induction h with
  | nil => exact .nil
  | cons r t ih => rw [List.reverse_cons, List.reverse_cons]; exact Vals.append ih (.cons r .nil)
theorem Vals.rep {xs : List V} {us : List Value} (h : Vals xs us) : ∀ k : Nat, Vals (List.replicate k xs).flatten (List.replicate k us).flatten
  | 0 => .nil
  | k + 1 => by
    rw [List.replicate_succ, List.replicate_succ, List.flatten_cons, List.flatten_cons]
    exact Vals.append h (Vals.rep h k)
theorem foldl_rep (its : List Value) : ∀ (k : Nat) (acc : List Value),
    List.foldl (fun x1 x2 => x1 ++ x2) acc.toArray (List.replicate k its.toArray) = (acc ++ (List.replicate k its).flatten).toArray
  | 0, acc => by simp
  | k + 1, acc => by
    have e : acc.toArray ++ its.toArray = (acc ++ its).toArray := by simp
    have e2 : (acc ++ its) ++ (List.replicate k its).flatten = acc ++ (List.replicate (k + 1) its).flatten := by
      rw [List.replicate_succ, List.flatten_cons, List.append_assoc]
    rw [← e2, ← foldl_rep its k (acc ++ its), ← e, List.replicate_succ, List.foldl_cons]

section
variable {X : Cx} {pins : List (Addr × Obj)} {σ : St} {H : Hp} {s : Shared} {l b : Addr} {xs ys zs : List V}

/-! ### the two steps: a tracked list is rewritten, a new list is laid -/
theorem Inv.lset {its its' : List Value} {n : Nat} {f : Array Value → Array Value} {t' : Nat} (I : Inv X pins σ H s) (hH : H l = some (.lst xs))
    (e : s.heap.get? l = some { cls := .type "list", data := .seq its.toArray n }) (hf : f its.toArray = its'.toArray) (hv : Vals ys its') (hz : ys.length ≤ sizeLine) :
    Inv X pins σ (upd H l (.lst ys)) { s with heap := s.heap.update l (Obj.mapSeq f), toks := t' } := by
  have q := PySem.IsL.update e f
  rw [hf] at q
  refine I.write (x := l) (e := l) (by rw [hH]; exact trivial) (.inl rfl) (fun b' u hb hu => (Heap.get?_update_other s.heap (Obj.mapSeq f) (Ne.symm hb)).trans hu) ⟨_, q⟩ ?_
  exact ⟨hz, its', _, hv, q⟩
theorem Inv.lnew {its : List Value} {t' : Nat} (I : Inv X pins σ H s) (hv : Vals ys its) (hz : ys.length ≤ sizeLine) :
    Inv X pins σ (upd H s.heap.objs.size (.lst ys)) { s with heap := s.heap.push { cls := .type "list", data := .seq its.toArray }, toks := t' } :=
  I.laid (fun _ _ q => Heap.get?_push_of_some _ q) (Nat.le_refl _) ⟨hz, its, 0, hv, Heap.get?_push_size _ rfl⟩
theorem Inv.fresh (I : Inv X pins σ H s) : H s.heap.objs.size = none := I.hok.fresh (Nat.le_refl _)
theorem Inv.lstM (I : Inv X pins σ H s) (hH : H l = some (.lst xs)) : xs.length ≤ sizeLine ∧ ∃ (its : List Value) (n : Nat), Vals xs its ∧ xs.length = its.length ∧ s.heap.get? l = some { cls := .type "list", data := .seq its.toArray n } := by
  obtain ⟨z, its, n, r, e⟩ := I.hok l _ hH
  exact ⟨z, its, n, r, r.length, e⟩

theorem notLongL {n : Nat} (h : n ≤ sizeLine) : Builtin.List.listTooLong n = false := by
  unfold Builtin.List.listTooLong
  exact decide_eq_false (by omega)
end

section
variable {X : Cx}

/-! ### methods -/
def rAppend : V → List V → Hp → VK → Prop := fun x vs H Q => ∃ l xs y, x = .ref l ∧ vs = [y] ∧ H l = some (.lst xs) ∧ xs.length < sizeLine ∧ Q .non (upd H l (.lst (xs ++ [y])))
theorem mt_append : MtM X "list.append" rAppend := by
  intro pins s σ H x vs v us Q I rx rv h
  obtain ⟨l, xs, y, rfl, rfl, hH, hz, q⟩ := h
  cases rx
  obtain ⟨u, rfl, ru⟩ := rv.one
  obtain ⟨z, its, n, r, hl, e⟩ := I.lstM hH
  refine call_meets F.slot_list_append ⟨_, e, rfl⟩ F.entry_list_append (F.args_list_append_2 _ _) (PySem.list_append l its.toArray n u (by rw [List.size_toArray]; omega)) ⟨e, ?_⟩
  refine ⟨.non, _, I.lset (its' := its ++ [u]) hH e (by simp) (r.append (.cons ru .nil)) ?_, rfl, q⟩
  rw [List.length_append, List.length_singleton]
  omega

def rExtend : V → List V → Hp → VK → Prop := fun x vs H Q => ∃ l b xs zs, x = .ref l ∧ vs = [.ref b] ∧ H l = some (.lst xs) ∧ H b = some (.lst zs) ∧ xs.length + zs.length ≤ sizeLine ∧ Q .non (upd H l (.lst (xs ++ zs)))
def rPop : V → List V → Hp → VK → Prop := fun x vs H Q => ∃ l xs y, x = .ref l ∧ vs = [] ∧ H l = some (.lst xs) ∧ xs[xs.length - 1]? = some y ∧ Q y (upd H l (.lst xs.dropLast))
def rPopAt : V → List V → Hp → VK → Prop := fun x vs H Q => ∃ l xs i k y, x = .ref l ∧ vs = [.int i] ∧ H l = some (.lst xs) ∧ -(2 ^ 63) ≤ i ∧ i < 2 ^ 63 ∧ seqIndex? i xs.length = some k ∧ xs[k]? = some y ∧ Q y (upd H l (.lst (xs.eraseIdx k)))
def rReverse : V → List V → Hp → VK → Prop := fun x vs H Q => ∃ l xs, x = .ref l ∧ vs = [] ∧ H l = some (.lst xs) ∧ Q .non (upd H l (.lst xs.reverse))
def rClear : V → List V → Hp → VK → Prop := fun x vs H Q => ∃ l xs, x = .ref l ∧ vs = [] ∧ H l = some (.lst xs) ∧ Q .non (upd H l (.lst []))
/-! ### list + list, list += list, list * int -/
def rCat : R2 := fun x y H Q => ∃ l b xs zs, x = .ref l ∧ y = .ref b ∧ H l = some (.lst xs) ∧ H b = some (.lst zs) ∧ xs.length + zs.length ≤ sizeLine ∧ ∀ p, H p = none → Q (.ref p) (upd H p (.lst (xs ++ zs)))
theorem op_cat : OpR X (binaryOp .Add) rCat := by
  intro pins s σ H x y v u Q I rx ry h
  obtain ⟨l, b, xs, zs, rfl, rfl, hH, hB, hz, q⟩ := h
  cases rx
  cases ry
  obtain ⟨z, its, n, r, hl, e⟩ := I.lstM hH
  obtain ⟨z2, its2, n2, r2, hl2, e2⟩ := I.lstM hB
  refine PySem.P.add_list e e2 ?_ (by rw [List.size_toArray, List.size_toArray]; omega)
  have ea : its.toArray ++ its2.toArray = (its ++ its2).toArray := by simp
  rw [ea]
  exact ⟨.ref _, _, I.lnew (t' := s.toks) (r.append r2) (by rw [List.length_append]; omega), rfl, q _ I.fresh⟩
/-- a list times an int (a negative one is nothing) -/
def rRep : R2 := fun x y H Q => ∃ l k xs, x = .ref l ∧ y = .int k ∧ H l = some (.lst xs) ∧ -(2 ^ 63) ≤ k ∧ k < 2 ^ 63 ∧ xs.length * k.toNat ≤ sizeLine ∧
  ∀ p, H p = none → Q (.ref p) (upd H p (.lst (List.replicate k.toNat xs).flatten))
theorem len_rep {α : Type} (xs : List α) (k : Nat) : (List.replicate k xs).flatten.length = k * xs.length := by
  induction k with
  | zero => simp
  | succ k ih => rw [List.replicate_succ, List.flatten_cons, List.length_append, ih, Nat.succ_mul, Nat.add_comm]
theorem op_rep : OpR X (binaryOp .Mult) rRep := by
  intro pins s σ H x y v u Q I rx ry h
  obtain ⟨l, k, xs, rfl, rfl, hH, h1, h2, hz, q⟩ := h
  cases rx
  obtain ⟨t, rfl⟩ := ry
  obtain ⟨z, its, n, r, hl, e⟩ := I.lstM hH
  have hlen : its.toArray.size * k.toNat ≤ sizeLine := by rw [List.size_toArray, ← hl]; exact hz
  have hcap : ¬ its.toArray.size * k.toNat > (2 ^ 63 - 1) / 8 := by
    have : (sizeLine : Nat) ≤ (2 ^ 63 - 1) / 8 := by decide
    omega
  have hfit : ¬ (!Builtin.List.listFitsIndex k) = true := by
    rw [fitsIndex_both h1 h2]
    exact Bool.false_ne_true
  have hlong : ¬ Builtin.List.listTooLong (its.toArray.size * k.toNat) = true := by
    rw [notLongL hlen]
    exact Bool.false_ne_true
  have hnew : List.foldl (fun x1 x2 => x1 ++ x2) #[] (List.replicate (if its.toArray.isEmpty = true then 0 else k.toNat) its.toArray) = (List.replicate k.toNat its).flatten.toArray := by
    have f0 : ∀ m : Nat, List.foldl (fun x1 x2 => x1 ++ x2) #[] (List.replicate m its.toArray) = (List.replicate m its).flatten.toArray := fun m => by
      have := foldl_rep its m []
      rw [List.nil_append] at this
      exact this
    rw [f0]
    cases its with
    | nil => simp
    | cons a r' => rw [if_neg (by simp)]
  refine wpAny_binaryOp_repeat_ref (T := "list") (U := "int") (by decide) ⟨_, e, rfl⟩ (fun s' => typeIs_int s' k t) noFill_list_mul F.fills_int_mul F.slot_int_rmul repeat_list F.slot_int_index.lookup
    (call_meets F.slot_int_rmul (typeIs_int s k t) F.entry_int_rmul (F.args_int_rmul_2 _ _) (int___rmul___int_list k t l its.toArray n)
      ⟨e, rfl, ⟨_, e, rfl⟩, call_meets F.slot_list_mul ⟨_, e, rfl⟩ F.entry_list_mul (F.args_list_mul_2 _ _) (AutoListH.list___mul___list_int_3 l its.toArray n k t hfit hcap hlong) ⟨e, ?_⟩⟩)
  rw [hnew]
  exact ⟨.ref _, _, I.lnew (t' := s.toks) (r.rep k.toNat) (by rw [len_rep, Nat.mul_comm]; exact hz), rfl, q _ I.fresh⟩

/-! ### del xs[i] -/
end

/-! ### xs[a:b] = ys -/
section
variable {prog : Program} {w : World} {A : Around} {E : Value → Shared → Prop} {s : Shared}
set_option maxRecDepth 100000 in
end

section
variable {X : Cx}
end
end L2

namespace Att
open PySem PySem.W PySem.Calls PyProof.Rows

/-! ### the script -/
theorem ints_of_wellAll {P : Params} {h : Heap} : ∀ (ns : List Int) (vs : List Value), WellAll P h vs (ns.map WData.int) → IntsAre vs ns := by
  intro ns
  induction ns with
  | nil =>
    intro vs w
    rw [List.map_nil] at w
    cases w
    exact .nil
  | cons n ns ih =>
    intro vs w
    rw [List.map_cons] at w
    cases w with
    | cons a b =>
      cases a
      exact .cons _ _ (ih _ b)

theorem script_of {l : OpenLaw} {n : Nat} (hn : l.most = some n) {P : Params} {h : Heap} {args : List WData} {vals : List Value}
    (hpre : l.row.toRowW.claim.pre args = true) (hwl : WellAll P h vals args) :
    ∃ a vs ns, vals = [Value.ref a] ∧ args = [WData.list (ns.map WData.int)] ∧ h.get? a = some { cls := .type "list", data := .seq vs.toArray } ∧ IntsAre vs ns ∧ ns.length ≤ n := by
  have hsh : WShape.hasAll [] args [.list .int] = true := (pre_splitW hpre).1
  have hc : l.pre.holds [] { args := args } = true := (pre_splitW hpre).2
  obtain ⟨d, r, rfl, h1, h2⟩ := hasAllW_cons hsh
  obtain rfl := hasAllW_nil h2
  obtain ⟨xs, rfl, h3⟩ := hasW_list h1
  obtain ⟨ns, rfl⟩ := items_int h3
  have hlen : ns.length ≤ n := by
    unfold OpenLaw.pre at hc
    have h4 : (WTm.not (.lt (.lit (.int (n : Int))) (.len (.arg 0)))).holds [] { args := [.list (ns.map .int)] } = true := by
      have h4 := (holds_andW hc).1
      rw [hn] at h4
      exact h4
    have h5 := condW_of h4 (w_not (w_lt w_lit (w_len_list (w_arg rfl))))
    rw [List.length_map] at h5
    refine Nat.le_of_not_lt fun q => ?_
    have q' : (n : Int) < ((ns.length : Nat) : Int) := by omega
    first
      | (rw [decide_eq_true q'] at h5; exact absurd h5 (by decide))
      | (simp at h5; omega)
  cases hwl with
  | cons w1 w2 =>
    cases w2
    cases w1 with
    | list ho hall => exact ⟨_, _, ns, rfl, rfl, ho, ints_of_wellAll ns _ hall, hlen⟩

theorem post_true (l : OpenLaw) (args : List WData) : l.row.toRowW.claim.post args (.bool true) args = true :=
  postW_of (r := l.row.toRowW) (X := (true == true))
    (show WShape.has [] (.bool true) .bool = true by first | rfl | decide | simp [WShape.has, WShape.arms, WShape.armsAll])
    (show (WTm.eq .res (.lit (.bool true))).value [] { args := args, res := some (.bool true), after := args } = some (.bool (true == true)) from w_eq_bool (w_res rfl) w_lit) rfl

/-! ### the attachment: holds_open's last premise (the goal 'hc' behind k_head) from a wpAny of the law's body -/
/-- the same from a codeAny of the CALL (for a layer whose function contracts speak of calls) -/
theorem attach_call {l : OpenLaw} {n : Nat} {q : Program} {loose : List Str} {XP : (Str → Option Value) → Heap → Prop} {YP : World → Heap → Prop} {d : DefRec}
    (hn : l.most = some n) (hdf : d.params.defaults = [])
    (call : ∀ (w : World) (s₀ s₁ : Shared) (mg mb : Str → Option Value) (fa : Addr) (o : Obj) (pm cd doc : Value) (a : Addr) (vs : List Value) (ns : List Int),
      Ground q loose [] XP w s₀ mg mb s₁.heap → YP w s₁.heap →
      s₁.heap.get? fa = some o → o.data = .func (docDef d.name d.params d.body d.scope pm cd doc) → s₁.heap.CodeRec cd d.name → mg d.name = some (.ref fa) →
      s₁.heap.get? a = some { cls := .type "list", data := .seq vs.toArray } → IntsAre vs ns → ns.length ≤ n → s₁.gens = #[] →
      codeAny (model l.prog w) callerA (.call (.ref fa) ⟨[.ref a], []⟩) (fun r s' => r = .ok (.ret (.bool true)) ∧ OldK s₁.heap s'.heap ∧ s'.os = s₁.os ∧ AllBare s'.gens) s₁) :
    WalkO q loose XP YP l.row.toRowW d [] (fun f vs => PySem.call f vs) := by
  intro w s₀ s₁ mg mb G Y fa o pm cd doc dV kV ho hd hcd hD hmg hg args vals as hpre hlay hrd hwl hlo
  obtain rfl : dV = .none := Dflts.none hD hdf
  obtain rfl : kV = .none := Dflts.noKw hD
  obtain ⟨a, vs, ns, rfl, rfl, hobj, hints, hlen⟩ := script_of hn hpre hwl
  refine enter_call (codeAny_mono (call w s₀ s₁ mg mb fa o pm cd doc a vs ns G Y ho (fd_plain hd) hcd hmg hobj hints hlen hg) fun r s' hq => ?_)
  obtain ⟨rfl, h2, h3, h4⟩ := hq
  exact ⟨.inl ⟨.bool true, .bool true, [], rfl, fun _ => rfl, .bool true, post_true l _, fun _ => ⟨List.Pairwise.nil, fun _ hm => (nomatch hm)⟩⟩, h2, h3, h4⟩

/-! ### rules over ANY heap (no ledger) from facts about the written part K: the library's own take a ledger (News) for what they write -/
section
variable {prog : Program} {w : World} {A : Around} {E : Value → Shared → Prop} {s : Shared} {K : Frag}

/-! the whole heap as the ledger: makes every rule that writes through a ledger a rule over any heap -/
def noObjs (h : Heap) : Heap := { h with objs := #[] }
def ledger (h : Heap) (L d : Addr) : List (Addr × Obj) := (List.range h.objs.size).filterMap fun a => if a = L ∨ a = d then none else (h.get? a).map fun o => (a, o)
end
end Att

namespace L2
open PySem PySem.Spec PyProof.Rows

theorem vals_ints : ∀ {vs : List Value} {ns : List Int}, IntsAre vs ns → Vals (ns.map V.int) vs
  | _, _, .nil => .nil
  | _, _, .cons n t h => .cons ⟨t, rfl⟩ (vals_ints h)

/-- nothing is tracked but the script, known to the object (or it is an object of the module) -/
def Only (H : Hp) : Prop := ∀ b, H b = none ∨ ∃ o xs, H b = some (.frz o (.lst xs))

/-- THE HEAD: the law's promise, at the heap behind the top. F, the promise of the law's def, may use that base is part of the heap (so K.In base, base.Ns mainGlobals mg stand in Mod) -/
theorem law_call {P : Program} {w : World} {K : PySem.W.Frag} {mg mb : Str → Option Value} {CX : CXT} {k : Nat} {fa a : Addr} {fd : FuncData} {x : Str} {sp : Sp} {s₁ : Shared} {vs : List Value} {ns : List Int}
    (KX : K.In s₁.heap) (hns : s₁.heap.Ns mainGlobals mg) (hb : s₁.heap.Ns builtinsNs mb) (hbb : ∀ x : Str, x ≠ "__name__" → mb x = bootBuiltins x) (hlim : s₁.heap.NoLimit) (hg : s₁.gens = #[])
    (ha : s₁.heap.get? a = some { cls := .type "list", data := .seq vs.toArray }) (hi : IntsAre vs ns) (hl : ns.length ≤ sizeLine) (hr : Room k callerA)
    (F : ∀ base : Heap, K.In base → base.Ns mainGlobals mg → FnOk P w K mg base CX k fa fd [x] sp) (hbind : ∀ (s : Shared) (u : Value), BindsTo s fd ⟨[u], []⟩ [(x, u)])
    (hsp : ∀ H : Hp, Only H → SqL K H a (ns.map V.int) → sp [.ref a] H (fun v _ => v = .bl true) fun _ _ _ => False)
    (hCX : ∀ H e s', CX [] H s₁ (fun _ _ _ => False) e s' → False) :
    codeAny (model P w) callerA (.call (.ref fa) ⟨[.ref a], []⟩) (fun r s' => r = .ok (.ret (.bool true)) ∧ OldK s₁.heap s'.heap ∧ s'.os = s₁.os ∧ AllBare s'.gens) s₁ := by
  have rv := vals_ints hi
  have lenV := hi.length
  -- from an abstract heap in which nothing but the script may be tracked
  have core : ∀ H : Hp, Only H → SqL K H a (ns.map V.int) → HOk P w H s₁.heap → (∀ b, H b ≠ none → b = a) → (H a ≠ none → K.lookup a = none) →
      codeAny (model P w) callerA (.call (.ref fa) ⟨[.ref a], []⟩) (fun r s' => r = .ok (.ret (.bool true)) ∧ OldK s₁.heap s'.heap ∧ s'.os = s₁.os ∧ AllBare s'.gens) s₁ := by
    intro H hO hS hok hA hK
    have base_of : ∀ {b : Addr} {o : Obj}, s₁.heap.get? b = some o → H b = none → (hidT s₁.heap H).get? b = some o := fun e n => hidT_get e n
    have noA : ∀ {b : Addr} {o : Obj} {es : Array DictEntry} {ep : Nat}, s₁.heap.get? b = some o → o.data = .dict es ep → H b = none := fun {b o es ep} e d => by
      cases q : H b with
      | none => rfl
      | some u =>
        have e' : b = a := hA b (by rw [q]; simp)
        subst e'
        rw [ha] at e; cases e
        have d' : Data.seq vs.toArray _ = Data.dict es ep := d
        cases d'
    have nsK : ∀ {b : Addr} {m : Str → Option Value}, s₁.heap.Ns b m → (hidT s₁.heap H).Ns b m := fun {b m} ⟨o, es, ep, e, d, r⟩ => ⟨o, es, ep, base_of e (noA e d), d, r⟩
    have hKb : K.In (hidT s₁.heap H) := fun b o e => base_of (KX b o e) (by
      cases q : H b with
      | none => rfl
      | some u =>
        have e' : b = a := hA b (by rw [q]; simp)
        subst e'
        rw [hK (by rw [q]; simp)] at e; cases e)
    have hM : Mod K mg (hidT s₁.heap H) := ⟨hKb, nsK hns, ⟨mb, nsK hb, hbb⟩, let ⟨mc, h1, h2⟩ := hlim; ⟨mc, nsK h1, h2⟩⟩
    have e0 : Env0 P w K mg (hidT s₁.heap H) callerA [] s₁ H := ⟨rfl, hM, fun b o e => of_hidT e, Nat.le_of_eq (hidT_size _ _), trivial, fun b hb => absurd (show b ∈ ([] : List Addr) from hb) (by simp), hok, .of_eq hg⟩
    refine codeAny_mono ((F _ hKb (nsK hns)).run callerA [] s₁ H ⟨[.ref a], []⟩ [.ref a] [.ref a] _ _ hr e0 (hbind s₁ (.ref a)) (.cons rfl .nil) (hsp H hO hS)) fun r s' h => ?_
    cases r with
    | error e => exact (hCX H e s' h).elim
    | ok fl =>
      cases fl with
      | next => exact False.elim h
      | brk => exact False.elim h
      | cont => exact False.elim h
      | ret u =>
        obtain ⟨v, H', os, bare, un, hok', r', q⟩ := h
        have q' : v = .bl true := q
        subst q'
        obtain rfl : u = Value.bool true := r'
        refine ⟨rfl, OldK.of_keep fun b o e => ?_, os, bare⟩
        cases q : H b with
        | none => exact un.keep b o e q (by intro z; exact absurd (show b ∈ ([] : List Addr) from z) (by simp)) (by simp)
        | some u =>
          rcases hO b with z | ⟨ob, xs, z⟩
          · rw [q] at z; cases z
          · have z2 := un.frzs b ob _ z
            obtain ⟨e1, _⟩ := hok b _ z
            obtain ⟨e2, _⟩ := hok' b _ z2
            rw [e] at e1; cases e1
            exact e2
  cases hk : K.lookup a with
  | some o =>
    -- the script is one of the module's own objects
    have e := KX a o hk
    rw [ha] at e
    cases e
    refine core (fun _ => none) (fun _ => .inl rfl) (.inr ⟨_, vs.toArray, _, hk, rfl, rfl, rfl, by rw [List.size_toArray, lenV]; exact hl, by simpa using rv⟩) (fun b u z => by have z' : (none : Option HO) = some u := z; cases z') (fun b z => absurd rfl z) fun z => absurd rfl z
  | none =>
    refine core (fun b => if b = a then some (.frz { cls := .type "list", data := .seq vs.toArray } (.lst (ns.map V.int))) else none) (fun b => ?_) (.inl (.inr ⟨{ cls := .type "list", data := .seq vs.toArray }, if_pos rfl⟩)) (fun b u z => ?_) (fun b z => ?_) fun _ => hk
    · by_cases hb : b = a
      · exact .inr ⟨_, _, if_pos hb⟩
      · exact .inl (if_neg hb)
    · by_cases hb : b = a
      · have z' := (if_pos hb).symm.trans z
        cases z'
        subst hb
        exact ⟨ha, by rw [List.length_map]; exact hl, vs, _, rv, ha⟩
      · have z' := (if_neg hb).symm.trans z
        cases z'
    · by_cases hb : b = a
      · exact hb
      · exact absurd (if_neg hb) z
end L2

namespace L2
open PySem PySem.Spec PyProof.Rows

abbrev KOf {K : PySem.W.Frag} {h : Heap} (_ : K.In h) : PySem.W.Frag := K

/-- the goal that k_head leaves (case hc), from the law's promise. F gives the function object fd (K's own) once, then the promise over every base -/
theorem walk_of {l : PySem.W.OpenLaw} {n k : Nat} {q : Program} {loose : List Str} {XP : (Str → Option Value) → Heap → Prop} {YP : World → Heap → Prop} {d : DefRec} {K : Params → PySem.W.Frag} {CX : World → CXT} {sp : World → Sp} {x : Str}
    (hn : l.most = some n) (hn2 : n ≤ sizeLine) (hdf : d.params.defaults = []) (hr : Room k callerA)
    (hY : ∀ (w : World) (h : Heap), YP w h → (K w.params).In h)
    (F : ∀ (w : World) (mg : Str → Option Value) (fa : Addr) (h : Heap), (K w.params).In h → h.Ns mainGlobals mg → mg d.name = some (.ref fa) →
      ∃ fd : FuncData, (∀ (s : Shared) (u : Value), BindsTo s fd ⟨[u], []⟩ [(x, u)]) ∧
        ∀ base : Heap, (K w.params).In base → base.Ns mainGlobals mg → FnOk l.prog w (K w.params) mg base (CX w) k fa fd [x] (sp w))
    (hsp : ∀ (w : World) (H : Hp) (a : Addr) (ns : List Int), ns.length ≤ n → Only H → SqL (K w.params) H a (ns.map V.int) → sp w [.ref a] H (fun v _ => v = .bl true) fun _ _ _ => False)
    (hCX : ∀ (w : World) (H : Hp) (s : Shared) (e : Value) (s' : Shared), CX w [] H s (fun _ _ _ => False) e s' → False) :
    PySem.W.WalkO q loose XP YP l.row.toRowW d [] (fun f vs => PySem.call f vs) := by
  refine Att.attach_call hn hdf fun w s₀ s₁ mg mb fa o pm cd doc a vs ns G Y ho hd hcd hmg hobj hints hlen hg => ?_
  have KX := hY w _ Y
  obtain ⟨fd, hb, hF⟩ := F w mg fa _ KX G.T.g hmg
  exact law_call KX G.T.g G.T.b G.T.builtins G.T.nolimit hg hobj hints (Nat.le_trans hlen hn2) hr hF hb (fun H hO hS => hsp w H a ns hlen hO hS) fun H e s' => hCX w H s₁ e s'
end L2

/- THE LAST THEOREM (shape; LID, My.* are yours):
   My.Adr: a structure of the addresses that your layer names (classes, functions); My.Txt K t: a structure (Prop) of the equations over K;
   My.txt_mk : {K} {implicit addresses ..} (e1 : nsIn K mainGlobals "law" = some (some (.ref f))) (e2 : K.lookup f = some ⟨oc, od, .func (fnOf "law" "law" params body scope dV kV doc pm an cdv ct), sl⟩) (e3 : codeIn K cdv "law" = true) .. : ∃ t, My.Txt K t

set_option maxRecDepth 100000 in
set_option maxHeartbeats 0 in
theorem PySem.Challenge.cw_LID_holds : PySem.Challenge.rw_LID.Holds := by
  w_on; o_law; k_head; (case hw => w_witness2)
  k_fill
  refine L2.walk_of (l := PySem.Challenge.rw_LID) (n := 63) (k := 40) (x := "script") (CX := fun w => ..) (sp := fun _ => My.sp_law) rfl (by decide) rfl ⟨rfl, by decide, by decide⟩ (fun w h Y => PySem.W.kIn_of Y) ?F ?S ?C
  case F =>
    intro w mg fa h KX G hmg
    have T : ∃ t, My.Txt (L2.KOf KX) t := by
      dsimp only [L2.KOf]                          -- K must stand as «<heap const> w.params» for k_is
      refine' My.txt_mk ?e1 ?e2 ?e3 ..
      (case e1 => PySem.W.k_is)                    -- in the order: a name -> its address -> its object -> its parts
      (case e2 => PySem.W.k_is)
      ..
    obtain ⟨t, T⟩ := T
    have e0 := hmg.symm.trans (PySem.W.mg_of KX G T.law)
    cases e0                                       -- fa is the law's own address
    exact ⟨_, fun s u => .of_eq rfl, fun base kb nb => My.law_fn T kb nb⟩     -- if «.of_eq rfl» comes too early: refine' ⟨_, ?b, fun base kb nb => My.law_fn T kb nb⟩; exact fun s u => .of_eq rfl
  case S => exact fun w H a ns hl hO hS => ..
  case C => exact ..
(the tactic k_is has no namespace: write k_is) -/

/-! SHORT WORDS over the layer: a def of the text, its body, what a loop and a test want. -/
namespace L2
open PySem PySem.Spec PyProof.Rows

/-! ### the text by places -/
/-- the j-th statement of a class's body -/
def inClass (s : Stmt) (j : Nat) : Stmt := match s with
  | .ClassDef _ _ _ body _ _ _ _ _ _ _ => body.getD j (.Pass ⟨0, 0, 0, 0⟩)
  | _ => .Pass ⟨0, 0, 0, 0⟩
def defArgs (s : Stmt) : Arguments := match s with
  | .FunctionDef _ a _ _ _ _ _ _ _ _ => a
  | _ => { posonlyargs := [], args := [], vararg := none, kwonlyargs := [], kw_defaults := [], kwarg := none, defaults := [] }
def defBody (s : Stmt) : List Stmt := match s with
  | .FunctionDef _ _ b _ _ _ _ _ _ _ => b
  | _ => []
def defScope (s : Stmt) : Scope := match s with
  | .FunctionDef _ _ _ _ _ _ sc _ _ _ => sc
  | _ => { kind := .function, names := [], isGenerator := false, isCoroutine := false }

/-! ### no exception leaves a def -/
abbrev CX0 : CXT := fun _ _ _ _ _ _ => False
abbrev E0 : XK := fun _ _ _ => False
theorem pass0 {X : Cx} : Passes CX0 X E0 := fun _ _ _ _ _ _ _ h => h.elim

/-! ### a def (or method) of the text as it stands behind the top -/
structure Fun (K : PySem.W.Frag) (x qual : Str) (st : Stmt) (f : Addr) (fd : FuncData) : Prop where
  ex : ∃ (oc : Value) (od : Option Addr) (kV doc pm : Value) (an : Option Addr) (cdv ct : Value) (osl : Array (Option Value)),
    fd = PySem.W.fnOf x qual (defArgs st) (defBody st) (defScope st) .none kV doc pm an cdv ct ∧ K.lookup f = some ⟨oc, od, .func fd, osl⟩ ∧ PySem.W.codeIn K cdv qual = true
  kp : PySem.W.keepIn K (.ref f) = true
section
variable {P : Program} {w : World} {K : PySem.W.Frag} {mg : Str → Option Value} {base : Heap}
/-- THE RULE for a def: its body as a term of rules, and the reading of that term -/
theorem Fun.ok {x qual : Str} {st : Stmt} {f : Addr} {fd : FuncData} {N ps : List Str} {k : Nat} {sp : Sp} (F : Fun K x qual st f fd) (S : FnScope N ps (defScope st)) (len : ∀ vs H Q E, sp vs H Q E → vs.length = ps.length)
    (hbody : ∀ (cdv : Value) (A : Around) (outer : List Env) (s : Shared) (H : Hp) (vs : List V) (Q : VK) (E : XK), Room k (A.deeper (envOfC qual (defScope st) s.heap.objs.size f cdv)) → sp vs H Q E →
      ∃ t, PSs (cxOf CX0 P w K mg base N qual (defScope st) f cdv A outer s H E).nox (defBody st) t ∧ t { nx := fun _ H' => Q .non H', rt := Q } (start N vs) H) : FnOk P w K mg base CX0 (k + 1) f fd ps sp := by
  obtain ⟨oc, od, kV, doc, pm, an, cdv, ct, osl, rfl, lk, hcd⟩ := F.ex
  refine fn_of lk hcd S len fun A outer s H vs Q E hr hsp => ?_
  obtain ⟨t, h, q⟩ := hbody cdv A outer s H vs Q E hr hsp
  exact ⟨t, h.nox, q⟩
/-- how its arguments bind (no defaults): h is «fun _ _ _ _ _ _ us hl => match us, hl with | [_, _], _ => rfl», one _ a parameter -/
theorem Fun.binds {x qual : Str} {st : Stmt} {f : Addr} {fd : FuncData} {ps : List Str} (F : Fun K x qual st f fd)
    (h : ∀ (kV doc pm : Value) (an : Option Addr) (cdv ct : Value) (us : List Value), us.length = ps.length → bindArgs (PySem.W.fnOf x qual (defArgs st) (defBody st) (defScope st) .none kV doc pm an cdv ct) ⟨us, []⟩ = pure (ps.zip us)) : Binds K fd ps [] := by
  obtain ⟨oc, od, kV, doc, pm, an, cdv, ct, osl, rfl, lk, hcd⟩ := F.ex
  exact .all (h kV doc pm an cdv ct)
theorem fun_mk {x qual : Str} {st : Stmt} {f : Addr} {oc : Value} {od an : Option Addr} {osl : Array (Option Value)} {kV doc pm cdv ct : Value} (l : K.lookup f = some ⟨oc, od, .func (PySem.W.fnOf x qual (defArgs st) (defBody st) (defScope st) .none kV doc pm an cdv ct), osl⟩)
    (c : PySem.W.codeIn K cdv qual = true) (k : PySem.W.keepIn K (.ref f) = true) : Fun K x qual st f (PySem.W.fnOf x qual (defArgs st) (defBody st) (defScope st) .none kV doc pm an cdv ct) := ⟨⟨oc, od, kV, doc, pm, an, cdv, ct, osl, rfl, l, c⟩, k⟩
end
theorem small1000 {n : Nat} (h : n ≤ 1000) : n < sizeLine := Nat.lt_of_le_of_lt h (by decide)

/-! ### expressions in short: the name that stands in the i-th slot -/
section
variable {X : Cx}
end

/-! ### tests -/
/-! ### heaps -/
/-- all that was tracked is as it was -/
def Same (H H' : Hp) : Prop := ∀ b o, H b = some o → H' b = some o
theorem Same.refl (H : Hp) : Same H H := fun _ _ h => h
theorem Same.trans {H H1 H2 : Hp} (a : Same H H1) (b : Same H1 H2) : Same H H2 := fun c o h => b c o (a c o h)
theorem Same.free {H H' : Hp} (e : Same H H') {l : Addr} (h : H' l = Option.none) : H l = Option.none := by
  cases q : H l with
  | none => rfl
  | some o =>
    rw [e l o q] at h
    cases h
theorem Same.seq {K : PySem.W.Frag} {H H' : Hp} {a : Addr} {xs : List V} (e : Same H H') (h : SqL K H a xs) : SqL K H' a xs := by
  rcases h with (h | ⟨o, h⟩) | h
  · exact .inl (.inl (e _ _ h))
  · exact .inl (.inr ⟨o, e _ _ h⟩)
  · exact .inr h

end L2

set_option Elab.async false
set_option linter.all false
set_option maxRecDepth 100000
set_option maxHeartbeats 4000000
namespace L2
open PySem PySem.Spec PyProof.Rows
section
variable {X : Cx} {tg : Expr}
/-- floor division by a positive number below 2 ^ 64 -/
def CDivW (_ j : Int) : Prop := 0 < j ∧ j < 18446744073709551616
theorem log2_lt64 {n : Nat} (h : n < 18446744073709551616) : n.log2 < 9000 := by
  by_cases h0 : n = 0
  · subst h0; decide
  · have : n.log2 < 64 := (Nat.log2_lt h0).2 (by simpa using h)
    omega
theorem op_fdivW : OpR X (binaryOp .FloorDiv) (rI CDivW fun i j => .int (i / j)) := opI fun i j _ _ _ _ _ hc q => by
  have h1 : (0 : Int) < j := hc.1
  have h2 : j < 18446744073709551616 := hc.2
  exact floordiv_int (by omega) (by rw [Int.fdiv_eq_ediv_of_nonneg i (by omega)]; exact q) (.inl (PyProof.noPylong_of_log2 (log2_lt64 (by omega))))
/-- isinstance of one built-in type -/
def rIsT (K : PySem.W.Frag) : List V → Hp → VK → Prop := fun xs H Q => ∃ x T t b, xs = [x, .ty T] ∧ TyOf K H x t ∧ PySem.W.kitOne K t (.type T) = some b ∧ Q (.bl b) H
/-- reversed(l): the list from its end on; it stays as it is -/
def Itv (K : PySem.W.Frag) (a : Addr) (xs : List V) : It :=
  ⟨fun i H => SqL K H a xs ∧ i < xs.length, fun i H x H' => H' = H ∧ xs[xs.length - 1 - i]? = some x, fun i _ => xs.length ≤ i⟩
def iRev (K : PySem.W.Frag) (ta : TA) : TI := fun σ H R => ta σ H fun vs H1 => ∃ a xs, vs = [.ref a] ∧ SqL K H1 a xs ∧ R (Itv K a xs) H1
theorem boot_rev : bootBuiltins "reversed" = some (.type "reversed") := by first | rfl | kernel_rfl
/-- a display of written ints -/
inductive IntsE : List Expr → List Int → Prop where
  | nil : IntsE [] []
  | cons {i : Int} {j : Nat} {p : Pos} {r : List Expr} {ns : List Int} (h : IntsE r ns) : IntsE (.Constant (.int i) j p :: r) (i :: ns)
theorem pa_ints {es : List Expr} {ns : List Int} (h : IntsE es ns) : PA X es (fun _ H Q => Q (ns.map V.int) H) := by
  induction h with
  | nil => exact pa_nil
  | cons h ih => exact pa_cons pe_int ih
/-! the judgements in a box: where a display of written things would be run by Lean's own reduction while a term is read -/
structure JE (X : Cx) (e : Expr) (t : TE) : Prop where
  h : PE X e t
structure JS (X : Cx) (st : Stmt) (t : TS) : Prop where
  h : PS X st t
structure JSs (X : Cx) (sts : List Stmt) (t : TS) : Prop where
  h : PSs X sts t
end
end L2

set_option Elab.async false
set_option linter.all false
set_option maxRecDepth 100000
set_option maxHeartbeats 4000000
namespace L2
open PySem PySem.Spec PyProof.Rows
/-! ### comprehensions -/
theorem closure_key {env : Env} {f : Str × NameKind → List (Str × Addr) → Sem (ForInStep (List (Str × Addr)))}
    (hf : ∀ y acc c, y.2 = NameKind.free → env.cells.lookup y.1 = some c → f y acc = pure (.yield ((y.1, c) :: acc))) (hf' : ∀ y acc, y.2 ≠ NameKind.free → f y acc = pure (.yield acc)) :
    ∀ (names : List (Str × NameKind)) (acc : List (Str × Addr)), (∀ y ∈ names, y.2 = NameKind.free → ∃ c, env.cells.lookup y.1 = some c) → (∀ x c, acc.lookup x = some c → env.cells.lookup x = some c) →
      ∃ cl, forIn names acc f = (pure cl : Sem (List (Str × Addr))) ∧ (∀ x c, cl.lookup x = some c → env.cells.lookup x = some c) ∧ (∀ y ∈ names, y.2 = NameKind.free → ∃ c, cl.lookup y.1 = some c) ∧ (∀ x c, acc.lookup x = some c → ∃ c', cl.lookup x = some c')
  | [], acc, _, ha => ⟨acc, rfl, ha, (fun _ h => nomatch h), fun x c h => ⟨c, h⟩⟩
  | y :: r, acc, hn, ha => by
    by_cases hy : y.2 = NameKind.free
    · obtain ⟨c, hc⟩ := hn y List.mem_cons_self hy
      have ha' : ∀ x d, ((y.1, c) :: acc).lookup x = some d → env.cells.lookup x = some d := fun x d h => by
        rw [List.lookup_cons] at h
        cases e : x == y.1 with
        | true =>
          rw [e] at h
          have : x = y.1 := by simpa using e
          subst this
          cases h
          exact hc
        | false => rw [e] at h; exact ha x d h
      obtain ⟨cl, h1, h2, h3, h4⟩ := closure_key hf hf' r _ (fun z hz => hn z (List.mem_cons_of_mem _ hz)) ha'
      have hyl : ∃ c', cl.lookup y.1 = some c' := h4 y.1 c (by rw [List.lookup_cons]; simp)
      refine ⟨cl, ?_, h2, fun z hz hzf => ?_, fun x d hx => ?_⟩
      · rw [List.forIn_cons, hf y acc c hy hc]
        exact h1
      · rcases List.mem_cons.mp hz with rfl | hz
        · exact hyl
        · exact h3 z hz hzf
      · by_cases e : x = y.1
        · rw [e]; exact hyl
        · have e' : (x == y.1) = false := by simpa using e
          exact h4 x d (by rw [List.lookup_cons, e']; exact hx)
    · obtain ⟨cl, h1, h2, h3, h4⟩ := closure_key hf hf' r acc (fun z hz => hn z (List.mem_cons_of_mem _ hz)) ha
      refine ⟨cl, ?_, h2, fun z hz hzf => ?_, h4⟩
      · rw [List.forIn_cons, hf' y acc hy]
        exact h1
      · rcases List.mem_cons.mp hz with rfl | hz
        · exact absurd hzf hy
        · exact h3 z hz hzf
theorem closure_cells {scope : Scope} {env : Env} (h : ∀ y ∈ scope.names, y.2 = NameKind.free → ∃ c, env.cells.lookup y.1 = some c) :
    ∃ cl, closureFor scope env = pure cl ∧ (∀ x c, cl.lookup x = some c → env.cells.lookup x = some c) ∧ (∀ y ∈ scope.names, y.2 = NameKind.free → ∃ c, cl.lookup y.1 = some c) := by
  obtain ⟨cl, h1, h2, h3, _⟩ := closure_key (env := env) (f := fun x cs => match x with
      | (name, kind) => if (kind == NameKind.free) = true then do
            let a ← cellOf env name
            pure (ForInStep.yield ((name, a) :: cs))
          else pure (ForInStep.yield cs)) (fun y acc c hy hc => by
        obtain ⟨n, k⟩ := y
        simp only at hy hc
        subst hy
        simp only [beq_self_eq_true, if_true, cellOf, hc]
        rfl) (fun y acc hy => by
        obtain ⟨n, k⟩ := y
        simp only at hy
        have : (k == NameKind.free) = false := by simpa using hy
        simp only [this, Bool.false_eq_true, if_false]) scope.names [] h (fun _ _ z => by simp at z)
  refine ⟨cl, ?_, h2, h3⟩
  show (forIn scope.names [] _ >>= fun cs => pure cs) = pure cl
  exact (congrArg (· >>= fun cs => (pure cs : Sem (List (Str × Addr)))) h1).trans rfl
theorem lookup_relabel_free {env : Env} (hk : env.scope.kind = .function) : ∀ {names : List (Str × NameKind)} {x : Str}, names.lookup x = some .free → env.kindOf x = some .cell →
    (names.map fun (n, k) => if (k == NameKind.free && env.scope.kind == .function && env.kindOf n == some .cell) then (n, NameKind.cell) else (n, k)).lookup x = some .cell
  | [], _, h, _ => by simp at h
  | (n, k) :: r, x, h, hx => by
    rw [List.map_cons]
    rw [List.lookup_cons] at h
    cases e : x == n with
    | true =>
      rw [e] at h
      have : x = n := by simpa using e
      subst this
      cases h
      simp [hk, hx, List.lookup_cons]
    | false =>
      rw [e] at h
      have ih := lookup_relabel_free hk h hx
      simp only
      split <;> (rw [List.lookup_cons, e]; exact ih)
theorem mem_of_lookup_relabel {env : Env} : ∀ {names : List (Str × NameKind)} {x : Str} {k' : NameKind},
    (names.map fun (n, k) => if (k == NameKind.free && env.scope.kind == .function && env.kindOf n == some .cell) then (n, NameKind.cell) else (n, k)).lookup x = some k' → k' = .cell ∨ k' = .free →
    ∃ k, (x, k) ∈ names ∧ (k = .cell ∨ k = .free)
  | [], _, _, h, _ => by simp at h
  | (n, k) :: r, x, k', h, hk => by
    rw [List.map_cons] at h
    simp only at h
    cases e : x == n with
    | true =>
      have : x = n := by simpa using e
      subst this
      refine ⟨k, List.mem_cons_self, ?_⟩
      split at h
      · rename_i hc
        simp only [Bool.and_eq_true] at hc
        exact .inr (by simpa using hc.1.1)
      · rw [List.lookup_cons, e] at h
        cases h
        exact hk
    | false =>
      have h' : (r.map fun (n, k) => if (k == NameKind.free && env.scope.kind == .function && env.kindOf n == some .cell) then (n, NameKind.cell) else (n, k)).lookup x = some k' := by
        split at h <;> (rw [List.lookup_cons, e] at h; exact h)
      obtain ⟨k1, h1, h2⟩ := mem_of_lookup_relabel h' hk
      exact ⟨k1, List.mem_cons_of_mem _ h1, h2⟩
/-- the context of a comprehension's block -/
def compCx (X : Cx) (Nc : List Str) (scope : Scope) (cl : List (Str × Addr)) (C : Addr) (fp : List Addr) (pins : List (Addr × Obj)) (s₂ : Shared) (H₂ : Hp) : Cx where
  prog := X.prog
  w := X.w
  K := X.K
  mg := X.mg
  base := X.base
  A := X.A
  N := Nc
  s₀ := s₂
  H₀ := H₂
  env := compEnvC scope cl C X.env
  outer := X.stack
  stack := X.stack
  ex := fp
  fn := fun _ => false
  calm := true
  pn := X.pn ++ pins
  xe := fun _ _ => False
/-- what the text must be: the comprehension's names against the names around it; js: for each of its names the slot around, or none -/
structure CompOk (N0 : List Str) (sc0 : Scope) (scope : Scope) (Nc : List Str) (js : List (Option Nat)) : Prop where
  kind : scope.kind = .function
  nocell : ∀ y ∈ scope.names, y.2 ≠ .cell
  names : ∀ y ∈ scope.names, y.2 = .local → scope.names.lookup y.1 = some .local
  free : ∀ y ∈ scope.names, y.2 = .free → sc0.names.lookup y.1 = some .cell
  len : js.length = Nc.length
  slots : ∀ p ∈ Nc.zip js, ∀ j ∈ p.2, N0[j]? = some p.1 ∧ scope.names.lookup p.1 = some .free ∧ sc0.names.lookup p.1 = some .cell
def outσ (js : List (Option Nat)) (σ : St) : St := js.map fun o => o.bind fun j => (σ[j]?).join
section
variable {X : Cx} {pins : List (Addr × Obj)} {σ : St} {H₂ : Hp} {s₂ : Shared} {fp : List Addr} {Nc : List Str} {scope : Scope} {js : List (Option Nat)} {cl : List (Str × Addr)} {C : Addr}
theorem comp_ok (I : Inv X pins σ H₂ s₂) (hc : X.calm = true) (T : CompOk X.N X.env.scope scope Nc js) (hcl : ∀ x c, cl.lookup x = some c → X.env.cells.lookup x = some c) (hfr : ∀ y ∈ scope.names, y.2 = .free → ∃ c, cl.lookup y.1 = some c)
    (hC : s₂.heap.objs.size ≤ C) (hf : ∀ b ∈ fp, FpOk X pins H₂ b) (ho : ∀ b ∈ fp, ∃ o, s₂.heap.get? b = some o) : (compCx X Nc scope cl C fp pins s₂ H₂).Ok where
  mod := I.ok.mod
  kind := T.kind
  glob := I.ok.glob
  blt := I.ok.blt
  above := hC
  inj := fun x y c h1 h2 => I.ok.inj x y c (hcl x c h1) (hcl y c h2)
  has := fun x hx => by
    have hx' : ∃ k', (relabel scope X.env).names.lookup x = some k' ∧ (k' = .cell ∨ k' = .free) := by
      rcases hx with h | h
      · exact ⟨_, h, .inl rfl⟩
      · exact ⟨_, h, .inr rfl⟩
    obtain ⟨k', h1, h2⟩ := hx'
    obtain ⟨k, h3, h4⟩ := mem_of_lookup_relabel h1 h2
    rcases h4 with rfl | rfl
    · exact absurd rfl (T.nocell _ h3)
    · exact hfr _ h3 rfl
  cab := fun x c h => by cases h
  hd := fun _ => I.ok.hd hc
  frames := I.ok.frames
  stk := .inl rfl
  exf := fun b hb => by
    obtain ⟨f0, f1, f2, f3, f4, f5⟩ := hf b hb
    obtain ⟨o, e⟩ := ho b hb
    exact ⟨Nat.ne_of_lt (Nat.lt_of_lt_of_le (Heap.lt_size e) hC), fun x c h => f4 x c (hcl x c h)⟩
  bs := fun b o e => I.bs b o e
  bsz := Nat.le_trans I.ok.bsz I.sz
  noex := fun b o e hb => by
    obtain ⟨f0, f1, f2, f3, f4, f5⟩ := hf b hb
    rcases f3 with z | z
    · exact I.ok.noex b o e z
    · exact absurd (Nat.lt_of_lt_of_le (Heap.lt_size (I.ok.bs b o e).1) z) (Nat.lt_irrefl _)
  exfs := fun b hb z => by
    obtain ⟨f0, f1, f2, f3, f4, f5⟩ := hf b hb
    rcases List.mem_cons.mp (I.stkSub b z) with q | q
    · exact f1 q
    · exact f2 q
  funs := I.stack
  frf := I.stkFree
theorem comp_start (I : Inv X pins σ H₂ s₂) (hc : X.calm = true) (T : CompOk X.N X.env.scope scope Nc js) (hcl : ∀ x c, cl.lookup x = some c → X.env.cells.lookup x = some c) (hfr : ∀ y ∈ scope.names, y.2 = .free → ∃ c, cl.lookup y.1 = some c)
    (hf : ∀ b ∈ fp, FpOk X pins H₂ b) (ho : ∀ b ∈ fp, ∃ o, s₂.heap.get? b = some o) {h₁ : Heap} {m : Str → Option Value} {tk : Nat} {n : Nat} (hC : C = s₂.heap.objs.size + 1) (old : ∀ b u, s₂.heap.get? b = some u → h₁.get? b = some u)
    (hns : h₁.Ns C m) (hD : h₁.get? s₂.heap.objs.size = some { cls := .type "list", data := .seq #[] n }) :
    Inv (compCx X Nc scope cl C fp pins s₂ H₂) [] (outσ js σ) (upd H₂ s₂.heap.objs.size (.lst [])) { s₂ with heap := h₁, toks := tk } := by
  have lt : ∀ b o, s₂.heap.get? b = some o → b < s₂.heap.objs.size := fun b o e => Heap.lt_size e
  have hle : s₂.heap.objs.size ≤ C := by rw [hC]; exact Nat.le_succ _
  have cellc : ∀ x c, cl.lookup x = some c → c < s₂.heap.objs.size := fun x c h => by
    obtain ⟨v, o, e, _⟩ := I.cell x c (hcl x c h)
    exact lt c o e
  have new : ObjOk X.prog X.w (upd H₂ s₂.heap.objs.size (.lst [])) h₁ s₂.heap.objs.size (.lst []) := ⟨Nat.zero_le _, [], n, .nil, hD⟩
  refine ⟨comp_ok I hc T hcl hfr hle hf ho, rfl, I.bare, ?_, ⟨m, hns, fun i x v e1 e2 e3 => ?_⟩, fun x c h => ?_, ?_, fun x c h => ?_, fun p hp => ?_, I.hok.laid old (Nat.le_refl _) new, ?_⟩
  · exact Un.laid old (Nat.le_refl _) (I.hok.fresh (Nat.le_refl _))
  · have e1 : Nc[i]? = some x := e1
    have e2' : ∃ j, js[i]? = some (some j) ∧ σ[j]? = some (some v) := by
      unfold outσ at e2
      rw [List.getElem?_map] at e2
      cases hj : js[i]? with
      | none => rw [hj] at e2; cases e2
      | some o =>
        rw [hj] at e2
        cases o with
        | none => cases e2
        | some j =>
          refine ⟨j, rfl, ?_⟩
          have e2 : (σ[j]?).join = some v := Option.some.inj e2
          cases hq : σ[j]? with
          | none => rw [hq] at e2; cases e2
          | some o => rw [hq] at e2; exact congrArg some e2
    obtain ⟨j, hj, hv⟩ := e2'
    have hz : (x, some j) ∈ Nc.zip js := by
      refine List.mem_of_getElem? (i := i) ?_
      rw [List.getElem?_zip_eq_some]
      exact ⟨e1, hj⟩
    obtain ⟨t1, t2, t3⟩ := T.slots _ hz j rfl
    obtain ⟨m0, hn0, hl0⟩ := I.loc
    obtain ⟨u, ru, lk⟩ := hl0 j x v t1 hv (.inr (.inl t3))
    refine ⟨u, ru, .inr ⟨.inl (lookup_relabel_free I.ok.kind t2 t3), ?_⟩⟩
    rcases lk with ⟨k, _⟩ | ⟨_, c, hcc, hcell⟩
    · have k : X.env.scope.names.lookup x = some .local := k
      rw [t3] at k; cases k
    · have hm : (x, NameKind.free) ∈ scope.names := by
        have : ∀ (l : List (Str × NameKind)), l.lookup x = some .free → (x, NameKind.free) ∈ l := fun l => by
          induction l with
          | nil => intro h; simp at h
          | cons y r ih =>
            obtain ⟨n', k'⟩ := y
            intro h
            rw [List.lookup_cons] at h
            cases e : x == n' with
            | true =>
              rw [e] at h
              have : x = n' := by simpa using e
              subst this
              cases h
              exact List.mem_cons_self
            | false => rw [e] at h; exact List.mem_cons_of_mem _ (ih h)
        exact this _ t2
      obtain ⟨c', hc'⟩ := hfr _ hm rfl
      have hc'' := hcl x c' hc'
      rw [hcc] at hc''
      cases hc''
      obtain ⟨o, ho, hd⟩ := hcell
      exact ⟨c, hc', o, old c o ho, hd⟩
  · obtain ⟨v, o, e, d⟩ := I.cell x c (hcl x c h)
    exact ⟨v, o, old c o e, d⟩
  · show upd H₂ _ _ C = none
    rw [upd_ne (by rw [hC]; exact Nat.ne_of_gt (Nat.lt_succ_self _))]
    exact I.hok.fresh hle
  · show upd H₂ _ _ c = none
    rw [upd_ne (Nat.ne_of_lt (cellc x c h))]
    exact I.freeC x c (hcl x c h)
  · have hp : p ∈ X.pn ++ pins := by
      have hp : p ∈ (X.pn ++ pins) ++ [] := hp
      rwa [List.append_nil] at hp
    obtain ⟨e, n0, ne, nf, d⟩ := I.pin p hp
    have hlt := lt _ _ e
    refine ⟨old _ _ e, ?_, ?_, fun z => ?_, d⟩
    · show upd H₂ _ _ p.1 = none
      rw [upd_ne (Nat.ne_of_lt hlt)]; exact n0
    · show p.1 ≠ C
      exact Nat.ne_of_lt (Nat.lt_of_lt_of_le hlt hle)
    · rcases List.mem_cons.mp (I.stkSub _ z) with q | q
      · exact ne q
      · exact nf q
  · show (outσ js σ).length = Nc.length
    unfold outσ
    rw [List.length_map]
    exact T.len
end
end L2

set_option Elab.async false
set_option linter.all false
set_option maxRecDepth 100000
set_option maxHeartbeats 4000000
namespace L2
open PySem PySem.Spec PyProof.Rows
/-- the turns of a comprehension; D: its list -/
def tTurns (J : It) (g : TG) (ti : TT) (te : TE) (D : Addr) (σ0 : St) (H0 : Hp) (Q : Hp → Prop) : Prop :=
  ∃ W : Nat → Nat → St → Hp → Prop, (∃ m, W 0 m σ0 H0) ∧ ∀ i m σ' H', W i m σ' H' →
    (J.stop i H' ∧ Q H') ∨ (J.go i H' ∧ ∃ Nn : St → Hp → Prop, (∀ σ'' H'', Nn σ'' H'' → ∃ m', m' < m ∧ W (i + 1) m' σ'' H'') ∧
      ∀ x H'', J.yld i H' x H'' → g x σ' H'' fun σ2 H2 => ti σ2 H2 fun ok H3 => if ok = true then te σ2 H3 fun y H4 => ∃ ys, H4 D = some (.lst ys) ∧ ys.length < sizeLine ∧ Nn σ2 (upd H4 D (.lst (ys ++ [y]))) else Nn σ2 H3)
def tComp (js : List (Option Nat)) (wi : TI) (g : TG) (ti : TT) (te : TE) : TE := fun σ H Q => wi σ H fun J H1 => ∀ D, H1 D = none → tTurns J g ti te D (outσ js σ) (upd H1 D (.lst [])) fun H' => Q (.ref D) H'
/-- the tests of a clause -/
def PIf (X : Cx) (ifs : List Expr) (ti : TT) : Prop :=
  ∀ (pins : List (Addr × Obj)) (s : Shared) (σ : St) (H : Hp) (Q : Bool → Hp → Prop), Inv X pins σ H s → ti σ H Q →
    wpAny (model X.prog X.w) X.A (forIn ifs true fun c r => if r = true then do let ok ← isTrue c X.env (eval c X.env); pure (ForInStep.yield ok) else pure (ForInStep.yield r)) (TP X pins σ Q) X.xe s
def tYes : TT := fun _ H Q => Q true H
theorem pif_nil {X : Cx} : PIf X [] tYes := fun _ _ _ H _ I h => wpAny_tests_nil ⟨H, I, h⟩
theorem pif_one {X : Cx} {c : Expr} {tc : TT} (h : PT X c tc) : PIf X [c] tc := fun pins s σ H Q I hq => wpAny_tests_one (h pins s σ H Q I hq)
theorem thnE {α : Type} {t : Sem α} {Q Q' : α → Shared → Prop} {M : Model} {A : Around} {E0 E : Value → Shared → Prop} {s : Shared} (hE : ∀ e s, ¬ E0 e s) (h : wpAny M A t Q E0 s) (hQ : ∀ a s, Q a s → Q' a s) : wpAny M A t Q' E s := wpAny_mono h hQ fun e s z => (hE e s z).elim
theorem comp_loop {Y : Cx} {tg iter elt : Expr} {ifs : List Expr} {scope : Scope} {pos : Pos} {J : It} {fp : List Addr} {it : Addr} {tn : Nat → Heap → Prop} {g : TG} {ti : TT} {te : TE} {D : Addr} {R : Result → Shared → Prop} {σ0 : St} {H0 : Hp} {s : Shared} {Q : Hp → Prop}
    (hc : Y.calm = true) (hx : ∀ e s, ¬ Y.xe e s) (T : Turn Y.prog Y.w Y.K tg J fp it tn) (hg : PG Y tg g) (hi : PIf Y ifs ti) (he : PE Y elt te)
    (stat : ∀ H', (∀ b ∈ fp, H' b = none) → ∀ b ∈ fp, FpOk Y [] H' b) (I0 : Inv Y [] σ0 H0 s) (st0 : tn 0 s.heap) (fr0 : ∀ b ∈ fp, H0 b = none) (h : tTurns J g ti te D σ0 H0 Q)
    (hR : ∀ σ' H' s', Inv Y [] σ' H' s' → Q H' → R (.ok .next) s') :
    codeAny (model Y.prog Y.w) Y.A (.compLoop (.ListComp elt [⟨tg, iter, ifs, 0⟩] scope pos) 0 (.ref it) (.ref D) Y.env) R s := by
  obtain ⟨W, ⟨m0, w0⟩, turn⟩ := h
  refine codeAny_loop rfl (fun n s' => ∃ i σ' H', Inv Y [] σ' H' s' ∧ tn i s'.heap ∧ (∀ b ∈ fp, H' b = none) ∧ W i n σ' H') (fun n s' hI => ?_) m0 ⟨0, σ0, H0, I0, st0, fr0, w0⟩
  show wpAny _ Y.A ((compTurn (.ListComp elt [⟨tg, iter, ifs, 0⟩] scope pos) 0 (.ref it) (.ref D) Y.env).onRaise (fun x => do noteFrame x Y.env; theTreesLotGoes x)) _ _ s'
  refine wpAny_noted ?_
  rw [compTurn_list]
  obtain ⟨i, σ3, H3, I3, st3, fr3, w3⟩ := hI
  refine wpAny_bind (wpAny_standAt (wpAny_bind ?_))
  rcases turn i n σ3 H3 w3 with ⟨stop, qn⟩ | ⟨go, Nn, hN, step⟩
  · refine wpAny_mono (T.done Y rfl rfl rfl hc i [] s' σ3 H3 _ I3 (stat H3 fr3) st3 stop) (fun r s4 ⟨hr, I4⟩ => ?_) (fun _ _ h => h)
    subst hr
    exact wpAny_pure (hR σ3 H3 s4 I4 qn)
  · refine wpAny_mono (T.item Y rfl rfl rfl hc i [] s' σ3 H3 _ I3 (stat H3 fr3) st3 go) (fun r s4 ⟨u, hr, h4⟩ => ?_) (fun _ _ h => h)
    subst hr
    refine wpAny_bind (wpAny_mono h4 (fun _ s5 ⟨x, H5, I5, r5, y5, st5, fr5⟩ => ?_) fun _ _ h => h)
    have I5' := I5.pinned (stat H5 fr5) (T.obj _ _ st5)
    refine wpAny_bind (thnE hx (hg _ s5 σ3 H5 x u _ I5' r5 (step x H5 y5)) fun _ s6 ⟨σ6, H6, I6, q6⟩ => ?_)
    refine wpAny_bind (thnE hx (hi _ s6 σ6 H6 _ I6 q6) fun ok s7 ⟨H7, I7, q7⟩ => ?_)
    have again : ∀ {σ7 : St} {H7 : Hp} {s7 : Shared}, Inv Y ([] ++ pinsAt fp s5.heap) σ7 H7 s7 → Nn σ7 H7 → ∃ m, m < n ∧ ∃ i σ' H', Inv Y [] σ' H' s7 ∧ tn i s7.heap ∧ (∀ b ∈ fp, H' b = none) ∧ W i m σ' H' := fun {σ7 H7 s7} I7 n7 => by
      obtain ⟨m', hm, w7⟩ := hN σ7 H7 n7
      refine ⟨m', hm, i + 1, σ7, H7, I7.unpinned, T.keep _ _ _ st5 fun b hb o e => (I7.pin (b, o) (List.mem_append_right _ (List.mem_append_right _ (mem_pinsAt hb e)))).1, fun b hb => ?_, w7⟩
      obtain ⟨o, e, d⟩ := T.obj _ _ st5 b hb
      exact (I7.pin (b, o) (List.mem_append_right _ (List.mem_append_right _ (mem_pinsAt hb e)))).2.1
    cases ok with
    | false => exact wpAny_pure ⟨rfl, again I7 q7⟩
    | true =>
      refine wpAny_bind (wpAny_bind (thnE hx (he _ s7 σ6 H7 _ I7 q7) fun y s8 ⟨yv, H8, I8, r8, ys, hD, hz, n8⟩ => wpAny_bind ?_))
      refine thnE hx (mt_append _ s8 σ6 H8 (.ref D) [yv] (.ref D) [y] (fun _ H9 => Nn σ6 H9) I8 rfl (.cons r8 .nil) ⟨D, ys, yv, rfl, rfl, hD, hz, n8⟩) fun _ s9 ⟨_, H9, I9, _, q9⟩ => ?_
      exact wpAny_pure (wpAny_pure ⟨rfl, again I9 q9⟩)
section
variable {X : Cx} {tg iter elt : Expr} {ifs : List Expr} {scope : Scope} {pos : Pos} {Nc : List Str} {js : List (Option Nat)} {g : TG} {ti : TT} {te : TE} {wi : TI}
/-- what is known of a comprehension's own namespace behind it -/
structure CompEnd (X : Cx) (pins : List (Addr × Obj)) (σ : St) (H' : Hp) (C : Addr) (s' : Shared) : Prop where
  inv : Inv X pins σ H' s'
  ns : ∃ m, s'.heap.Ns C m
  no : H' C = none
  ne : C ≠ X.env.locals
  ge : X.s₀.heap.objs.size ≤ C
  nc : ∀ x c, X.env.cells.lookup x = some c → c ≠ C
  np : ∀ p ∈ X.pn ++ pins, p.1 ≠ C
theorem CompEnd.go {X : Cx} {pins : List (Addr × Obj)} {σ σ' : St} {H' : Hp} {C : Addr} {s' t : Shared} (e : CompEnd X pins σ H' C s') (I : Inv X pins σ' H' t) {h' : Heap} (hs : Heap.SameBut C t.heap h') : Inv X pins σ' H' { t with heap := h' } :=
  I.turned (t' := t.toks) (it := C) (fun b o hb q => (hs.2 b hb).trans q) e.no e.ne (.inr e.ge) e.nc e.np
theorem comp_block {pins : List (Addr × Obj)} {σ : St} {H₂ : Hp} {s₂ : Shared} {fp : List Addr} {it : Addr} {J : It} {tn : Nat → Heap → Prop} {cl : List (Str × Addr)} {E : Value → Shared → Prop} {RR : Value → Addr → Result → Shared → Prop} {Q' : Addr → Hp → Prop}
    (hc : X.calm = true) (T : CompOk X.N X.env.scope scope Nc js) (hcl : ∀ x c, cl.lookup x = some c → X.env.cells.lookup x = some c) (hfr : ∀ y ∈ scope.names, y.2 = .free → ∃ c, cl.lookup y.1 = some c)
    (hg : ∀ cl C fp pins s₂ H₂, PG (compCx X Nc scope cl C fp pins s₂ H₂) tg g) (hi : ∀ cl C fp pins s₂ H₂, PIf (compCx X Nc scope cl C fp pins s₂ H₂) ifs ti) (he : ∀ cl C fp pins s₂ H₂, PE (compCx X Nc scope cl C fp pins s₂ H₂) elt te)
    (I2 : Inv X pins σ H₂ s₂) (Tn : Turn X.prog X.w X.K tg J fp it tn) (st2 : tn 0 s₂.heap) (f2 : ∀ b ∈ fp, FpOk X pins H₂ b)
    (q : ∀ D, H₂ D = none → tTurns J g ti te D (outσ js σ) (upd H₂ D (.lst [])) (Q' D))
    (hRR : ∀ D C H' s', CompEnd X pins σ H' C s' → Q' D H' → RR (.ref D) C (.ok .next) s') :
    wpAny (model X.prog X.w) X.A (newList []) (fun acc s₃ => wpAny (model X.prog X.w) X.A (newFunctionEnv scope X.env.globals cl [] X.env.qual none .none (some X.env)) (fun cenv s₄ =>
      codeAny (model X.prog X.w) X.A (.compStart (.ListComp elt [⟨tg, iter, ifs, 0⟩] scope pos) 0 (.ref it) acc { cenv with scope := relabel scope X.env }) (RR acc cenv.locals) s₄) E s₃) E s₂ := by
  refine wpAny_newObj_type (wpAny_newFunctionEnv T.nocell (by intro y hy; simp at hy) (fun h₁ hns₁ hsb₁ => ?_) T.kind)
  dsimp only at hns₁ hsb₁ ⊢
  generalize hH2 : s₂.heap.push { cls := .type "list", dict := none, data := .seq ([] : List Value).toArray } = Hx at hns₁ hsb₁ ⊢
  have hC : Hx.objs.size = s₂.heap.objs.size + 1 := by rw [← hH2, Heap.size_push]
  have below : ∀ b, b < s₂.heap.objs.size → b ≠ Hx.objs.size := fun b hb => by rw [hC]; exact Nat.ne_of_lt (Nat.lt_succ_of_lt hb)
  have old : ∀ b o, s₂.heap.get? b = some o → h₁.get? b = some o := fun b o e => hsb₁.extBut b o (below b (Heap.lt_size e)) (Heap.get?_push_of_some _ (hH2 ▸ Heap.get?_push_of_some _ e))
  have hD : h₁.get? s₂.heap.objs.size = some { cls := .type "list", data := .seq #[] } := hsb₁.extBut _ _ (by rw [hC]; exact Nat.ne_of_lt (Nat.lt_succ_self _)) (Heap.get?_push_of_some _ (hH2 ▸ Heap.get?_push_size _ rfl))
  have ho : ∀ b ∈ fp, ∃ o, s₂.heap.get? b = some o := fun b hb => let ⟨o, e, _⟩ := Tn.obj _ _ st2 b hb; ⟨o, e⟩
  have hDn : H₂ s₂.heap.objs.size = none := I2.hok.fresh (Nat.le_refl _)
  have hle : s₂.heap.objs.size ≤ Hx.objs.size := by rw [hC]; exact Nat.le_succ _
  have st1 : tn 0 h₁ := Tn.keep _ _ _ st2 fun b _ o e => old b o e
  have fr1 : ∀ b ∈ fp, upd H₂ s₂.heap.objs.size (.lst []) b = none := fun b hb => by
    obtain ⟨o, e⟩ := ho b hb
    rw [upd_ne (Nat.ne_of_lt (Heap.lt_size e))]
    exact (f2 b hb).1
  have stat : ∀ H', (∀ b ∈ fp, H' b = none) → ∀ b ∈ fp, FpOk (compCx X Nc scope cl Hx.objs.size fp pins s₂ H₂) [] H' b := fun H' hn b hb => by
    obtain ⟨g0, g1, g2, g3, g4, g5⟩ := f2 b hb
    obtain ⟨o, e⟩ := ho b hb
    refine ⟨hn b hb, below b (Heap.lt_size e), fun z => ?_, .inl hb, fun x c h => g4 x c (hcl x c h), fun p hp => g5 p ?_⟩
    · rcases List.mem_cons.mp (I2.stkSub b z) with y | y
      · exact g1 y
      · exact g2 y
    · have hp : p ∈ (X.pn ++ pins) ++ [] := hp
      rwa [List.append_nil] at hp
  have loop : ∀ tk, codeAny (model X.prog X.w) X.A (.compLoop (.ListComp elt [⟨tg, iter, ifs, 0⟩] scope pos) 0 (.ref it) (.ref s₂.heap.objs.size) (compEnvC scope cl Hx.objs.size X.env)) (RR (.ref s₂.heap.objs.size) Hx.objs.size) { s₂ with heap := h₁, toks := tk } := fun tk => by
    refine comp_loop (Y := compCx X Nc scope cl Hx.objs.size fp pins s₂ H₂) rfl (fun _ _ z => z) Tn (hg _ _ _ _ _ _) (hi _ _ _ _ _ _) (he _ _ _ _ _ _) stat
      (comp_start (tk := tk) I2 hc T hcl hfr f2 ho hC old hns₁ hD) st1 fr1 (q _ hDn) fun σ' H' s' I' qQ => ?_
    obtain ⟨m, hm, _⟩ := I'.loc
    refine hRR _ _ H' s' ⟨?_, ⟨m, hm⟩, I'.free, Nat.ne_of_gt (Nat.lt_of_lt_of_le I2.lt hle), Nat.le_trans I2.sz hle, fun x c h => ?_, fun p hp => ?_⟩ qQ
    · exact I2.call' (ch := fp) I'.os I'.base I'.hok I'.bare fun b hb => let ⟨g0, g1, g2, g3, g4, g5⟩ := f2 b hb; ⟨g3, g1, g4, g5⟩
    · obtain ⟨v, o, e, _⟩ := I2.cell x c h
      exact below c (Heap.lt_size e)
    · exact below _ (Heap.lt_size (I2.pin p hp).1)
  exact codeAny_compStart_list (loop _) (Tn.self _ _ _ _ _ st1 (loop _))
/-- [elt for tg in iter if ..] -/
theorem pe_comp (hc : X.calm = true) (T : CompOk X.N X.env.scope scope Nc js) (hit : PI X tg iter wi)
    (hg : ∀ cl C fp pins s₂ H₂, PG (compCx X Nc scope cl C fp pins s₂ H₂) tg g) (hi : ∀ cl C fp pins s₂ H₂, PIf (compCx X Nc scope cl C fp pins s₂ H₂) ifs ti) (he : ∀ cl C fp pins s₂ H₂, PE (compCx X Nc scope cl C fp pins s₂ H₂) elt te)
    (hs : ∀ x, foldedSetIterable iter X.env x = pure x := by intro _; rfl) : PE X (.ListComp elt [⟨tg, iter, ifs, 0⟩] scope pos) (tComp js wi g ti te) := by
  intro pins s σ H Q I h
  rw [eval_ListComp]
  obtain ⟨cl, hcl0, hcl, hfr⟩ := closure_cells (scope := scope) (env := X.env) (fun y hy hf => I.ok.has y.1 (.inl (T.free y hy hf)))
  refine wpAny_comprehension_free (use := none) rfl hs hcl0 T.kind T.names (thn (hit pins s σ H _ I h) fun xv s1 h1 => thn h1 fun itv s2 h2 => ?_)
  obtain ⟨it, fp, tn, J, H2, e, I2, Tn, st2, f2, q⟩ := h2
  subst e
  refine comp_block (RR := fun acc C => compPost (model X.prog X.w) X.A X.xe none (EP X pins σ Q) acc C) hc T hcl hfr hg hi he I2 Tn st2 f2 q fun D C H' s' ce qD => ?_
  obtain ⟨m, hm⟩ := ce.ns
  exact ⟨m, hm, fun h' hs' => ⟨.ref D, H', ce.go ce.inv hs', rfl, qD⟩⟩
/-- x = [elt for tg in iter if ..], x a local name of the def: stored ahead of the comprehension's own names being let go -/
theorem ps_comp {i : Nat} {y : Str} {py spos : Pos} (hN : X.N.Nodup) (hyi : X.N[i]? = some y) (hy : X.env.scope.names.lookup y = some .local) (hc : X.calm = true) (T : CompOk X.N X.env.scope scope Nc js) (hit : PI X tg iter wi)
    (hg : ∀ cl C fp pins s₂ H₂, PG (compCx X Nc scope cl C fp pins s₂ H₂) tg g) (hi : ∀ cl C fp pins s₂ H₂, PIf (compCx X Nc scope cl C fp pins s₂ H₂) ifs ti) (he : ∀ cl C fp pins s₂ H₂, PE (compCx X Nc scope cl C fp pins s₂ H₂) elt te)
    (hsw : swapsWith (.ListComp elt [⟨tg, iter, ifs, 0⟩] scope pos) (some (.Name y py)) spos.line X.env = pure true := by rfl)
    (hs : ∀ x, foldedSetIterable iter X.env x = pure x := by intro _; rfl) : PS X (.Assign [.Name y py] (.ListComp elt [⟨tg, iter, ifs, 0⟩] scope pos) spos) (tAsg (tComp js wi g ti te) (gName i)) := by
  intro pins s σ H D0 I h
  rw [exec_Assign_Name_used _ _ _ _ hsw]
  obtain ⟨cl, hcl0, hcl, hfr⟩ := closure_cells (scope := scope) (env := X.env) (fun y hy hf => I.ok.has y.1 (.inl (T.free y hy hf)))
  refine wpAny_bind (wpAny_standAt (wpAny_bind ?_))
  show wpAny _ X.A (do let _ ← comprehension (.ListComp elt [⟨tg, iter, ifs, 0⟩] scope pos) scope X.env _ (newList []) false (eval iter X.env) (some (assign (.Name y py) X.env))) _ _ s
  refine wpAny_bind (wpAny_mono (wpAny_comprehension_free (use := some (assign (.Name y py) X.env)) (Q := fun _ s' => SP X pins D0 .next s') rfl hs hcl0 T.kind T.names
    (thn (hit pins s σ H _ I h) fun xv s1 h1 => thn h1 fun itv s2 h2 => ?_)) (fun _ s' hq => wpAny_pure (wpAny_pure hq)) fun _ _ e => e)
  obtain ⟨it, fp, tn, J, H2, e, I2, Tn, st2, f2, q⟩ := h2
  subst e
  refine comp_block (RR := fun acc C => compPost (model X.prog X.w) X.A X.xe (some (assign (.Name y py) X.env)) (fun _ s' => SP X pins D0 .next s') acc C) hc T hcl hfr hg hi he I2 Tn st2 f2 q fun D C H' s' ce qD => ?_
  obtain ⟨m, hm⟩ := ce.ns
  show wpAny _ _ (assign (.Name y py) X.env (.ref D)) _ _ _
  refine wpAny_assign_Name (store_ok2 (v := .ref D) ce.inv hN hyi (.inl hy) rfl (fun s'' I'' ⟨a, sb, ha⟩ => ?_) (.inr hy))
  have hCa : C ≠ a := by
    rcases ha with rfl | ha
    · exact ce.ne
    · exact fun z => ce.nc y a ha z.symm
  exact ⟨m, hm.sameBut sb hCa, fun h' hs' => ⟨_, H', ce.go I'' hs', qD⟩⟩
end
end L2

set_option Elab.async false
set_option linter.all false
set_option maxRecDepth 100000
set_option maxHeartbeats 4000000
namespace L2
open PySem PySem.Spec PyProof.Rows
def compOkB (N0 : List Str) (sc0 scope : Scope) (Nc : List Str) (js : List (Option Nat)) : Bool :=
  decide (scope.kind = .function) && scope.names.all (fun y => y.2 != .cell) && scope.names.all (fun y => y.2 != .local || scope.names.lookup y.1 == some .local) && scope.names.all (fun y => y.2 != .free || sc0.names.lookup y.1 == some .cell) &&
    (js.length == Nc.length) && (Nc.zip js).all (fun p => match p.2 with | none => true | some j => N0[j]? == some p.1 && scope.names.lookup p.1 == some .free && sc0.names.lookup p.1 == some .cell)
theorem CompOk.of {N0 : List Str} {sc0 scope : Scope} {Nc : List Str} {js : List (Option Nat)} (h : compOkB N0 sc0 scope Nc js = true) : CompOk N0 sc0 scope Nc js := by
  unfold compOkB at h
  simp only [Bool.and_eq_true, List.all_eq_true, beq_iff_eq, decide_eq_true_eq] at h
  obtain ⟨⟨⟨⟨⟨h1, h2⟩, h3⟩, h4⟩, h5⟩, h6⟩ := h
  refine ⟨h1, fun y hy => by simpa using h2 y hy, fun y hy e => ?_, fun y hy e => ?_, h5, fun p hp j hj => ?_⟩
  · have := h3 y hy
    simpa [e] using this
  · have := h4 y hy
    simpa [e] using this
  · have := h6 p hp
    have hj : p.2 = some j := hj
    rw [hj] at this
    simpa [and_assoc] using this
section
variable {g : TG} {ti : TT} {te : TE} {D : Addr} {σ0 : St} {H0 : Hp} {Q : Hp → Prop}
end
section
variable {X : Cx} {a b : Expr} {rest : List Expr} {ta tb : TE} {pos : Pos} {tg : Expr}
/-- a or b, by the truth of a -/
def tOrT (K : PySem.W.Frag) (ta tb : TE) : TE := fun σ H Q => ta σ H fun x H1 => ∃ k, TruV K x H1 k ∧ if k = true then Q x H1 else tb σ H1 Q
/-! reversed(range(n)) -/
theorem range_reversed_meets (r : Addr) (a b c : Int) (t u v : Tok)
    (hc0 : ¬ (!(Builtin.Range.rangeFitsLong a && Builtin.Range.rangeFitsLong b && Builtin.Range.rangeFitsLong c && Builtin.Range.rangeFitsLong (-c) && Builtin.Range.rangeFitsLong (a - c) && Builtin.Range.rangeFitsLong (Builtin.Range.rangeSize a b c))) = true) :
    Meets (Builtin.«range.__reversed__» ⟨[.ref r], []⟩) (fun _ R s => s.heap.get? r = some { cls := .type "range", dict := none, data := .fields #[.int a t, .int b u, .int c v], slots := #[] } ∧
      R (.ok (.ret (Value.ref s.heap.objs.size))) { s with heap := s.heap.push { cls := Value.type "range_iterator", data := Data.fields #[rawInt (a + (Builtin.Range.rangeSize a b c - 1) * c), rawInt (Builtin.Range.rangeSize a b c), rawInt (-c)] }, toks := s.toks }) :=
  .of_wp fun prog w A R s h => by
    obtain ⟨hp, g, d, tk, os⟩ := s
    obtain ⟨hl, h⟩ := h
    have e : (Builtin.Range.rangeFitsLong a && Builtin.Range.rangeFitsLong b && Builtin.Range.rangeFitsLong c && Builtin.Range.rangeFitsLong (-c) && Builtin.Range.rangeFitsLong (a - c) && Builtin.Range.rangeFitsLong (Builtin.Range.rangeSize a b c)) = true := by
      cases z : (Builtin.Range.rangeFitsLong a && Builtin.Range.rangeFitsLong b && Builtin.Range.rangeFitsLong c && Builtin.Range.rangeFitsLong (-c) && Builtin.Range.rangeFitsLong (a - c) && Builtin.Range.rangeFitsLong (Builtin.Range.rangeSize a b c)) with
      | true => rfl
      | false => rw [z] at hc0; exact absurd rfl hc0
    wp_walk
    simp only [e, if_true]
    exact ⟨_, rfl, h⟩
end
end L2

set_option Elab.async false
set_option linter.all false
set_option maxRecDepth 100000
set_option maxHeartbeats 4000000
namespace L2
open PySem PySem.Spec PyProof.Rows
theorem sub_ri_reversed : isSubtype (.type "range_iterator") (.type "reversed") = pure false := by rw [isSubtype_type]; kernel_rfl
section
variable {prog : Program} {w : World} {A : Around} {E : Value → Shared → Prop} {s : Shared}
theorem fits62 {a : Int} (h1 : -(2 ^ 62) ≤ a) (h2 : a < 2 ^ 62) : Builtin.Range.rangeFitsLong a = true := by
  unfold Builtin.Range.rangeFitsLong
  simp only [Bool.and_eq_true, decide_eq_true_eq]
  omega
theorem size_0 {n : Int} (h0 : 0 ≤ n) : Builtin.Range.rangeSize 0 n 1 = n := by
  unfold Builtin.Range.rangeSize
  rw [if_pos (by decide)]
  split
  · omega
  · omega
theorem call_range_reversed {r : Addr} {n : Int} {t u v : Tok} {Q : Value → Shared → Prop} (hl : s.heap.get? r = some { cls := .type "range", data := .fields #[.int 0 t, .int n u, .int 1 v] }) (h0 : 0 ≤ n) (h1 : n < 2 ^ 62)
    (h : Q (.ref s.heap.objs.size) { s with heap := s.heap.push { cls := .type "range_iterator", data := .fields #[rawInt (n - 1), rawInt n, rawInt (-1)] } }) : wpAny (model prog w) A (call (.builtin "range.__reversed__") [.ref r]) Q E s := by
  have hT : s.TypeIs (.ref r) "range" := ⟨_, hl, rfl⟩
  have hf : (Builtin.Range.rangeFitsLong 0 && Builtin.Range.rangeFitsLong n && Builtin.Range.rangeFitsLong 1 && Builtin.Range.rangeFitsLong (-1) && Builtin.Range.rangeFitsLong (0 - 1) && Builtin.Range.rangeFitsLong (Builtin.Range.rangeSize 0 n 1)) = true := by
    rw [size_0 h0, fits62 (a := 0) (by decide) (by decide), fits62 (a := n) (by omega) h1, fits62 (a := 1) (by decide) (by decide), fits62 (a := -1) (by decide) (by decide), fits62 (a := 0 - 1) (by decide) (by decide)]
    all_goals rfl
  refine call_meets F.slot_range_reversed hT F.entry_range_reversed (F.args_range_reversed_1 _) (range_reversed_meets r 0 n 1 t u v (by rw [hf]; simp)) ⟨hl, ?_⟩
  rw [size_0 h0, show (0 : Int) + (n - 1) * 1 = n - 1 by omega]
  exact h
theorem code_reversed_newR {r : Addr} {n : Int} {t u v : Tok} {Q₁ : Value → Shared → Prop} (hl : s.heap.get? r = some { cls := .type "range", data := .fields #[.int 0 t, .int n u, .int 1 v] }) (h0 : 0 ≤ n) (h1 : n < 2 ^ 62)
    (h : Q₁ (.ref s.heap.objs.size) { s with heap := s.heap.push { cls := .type "range_iterator", data := .fields #[rawInt (n - 1), rawInt n, rawInt (-1)] } }) :
    codeAny (model prog w) A (.call (.builtin "reversed.__new__") ⟨[.type "reversed", .ref r], []⟩) (wants Q₁ E) s := by
  have hT : s.TypeIs (.ref r) "range" := ⟨_, hl, rfl⟩
  refine codeAny_of_tree ?_
  show wpAny _ A.in1 (do checkBuiltinCall "reversed.__new__" ⟨[.type "reversed", .ref r], []⟩; again (.builtin "reversed.__new__" ⟨[.type "reversed", .ref r], []⟩)) _ _ s
  refine wpAny_bind (wpAny_of_eq (F.newCall_reversed_1 _) (wpAny_pure ⟨plainId_quiet F.plain_reversed_new _, codeAny_builtin F.entry_reversed_new ?_⟩))
  rw [Around.under_plainId F.plain_reversed_new _]
  unfold Builtin.«reversed.__new__»
  refine wpAny_bind (wpAny_of_eq (newClass_reversed _) ?_)
  try dsimp only
  refine wpAny_bind (wpAny_of_eq (a := ()) (by first | rfl | kernel_rfl) ?_)
  refine wpAny_bind (wpAny_of_eq (a := ()) (by first | rfl | kernel_rfl) ?_)
  try dsimp only
  refine wpAny_bind (wpAny_specialOf hT F.slot_range_reversed.lookup ?_)
  try dsimp only
  refine wpAny_bind (wpAny_of_eq (F.slot_range_reversed.bind _) ?_)
  try dsimp only
  first
  | rw [if_neg (show ¬ ((Value.builtin "range.__reversed__" == Value.none) = true) from Bool.false_ne_true)]
  | (show wpAny _ _ (if (Value.builtin "range.__reversed__" == Value.none) = true then _ else _) _ _ _; rw [if_neg (show ¬ ((Value.builtin "range.__reversed__" == Value.none) = true) from Bool.false_ne_true)])
  refine wpAny_bind (wpAny_rule ?_)
  refine wpAny_bind (m := runValue (.call (.builtin "range.__reversed__") ⟨[.ref r], []⟩)) (show wpAny _ _ (call (.builtin "range.__reversed__") [.ref r]) _ _ _ from call_range_reversed hl h0 h1 ?_)
  first
  | exact wpAny_pure h
  | exact wpAny_bind (wpAny_pure (wpAny_pure h))
theorem call_reversed_range {r : Addr} {n : Int} {t u v : Tok} {Q : Value → Shared → Prop} (hl : s.heap.get? r = some { cls := .type "range", data := .fields #[.int 0 t, .int n u, .int 1 v] }) (h0 : 0 ≤ n) (h1 : n < 2 ^ 62)
    (h : Q (.ref s.heap.objs.size) { s with heap := s.heap.push { cls := .type "range_iterator", data := .fields #[rawInt (n - 1), rawInt n, rawInt (-1)] } }) : wpAny (model prog w) A (call (.type "reversed") [.ref r]) Q E s := by
  refine callType_other (U := "range_iterator") (Q₁ := fun obj s₁ => obj = .ref s.heap.objs.size ∧ s₁ = { s with heap := s.heap.push { cls := .type "range_iterator", data := .fields #[rawInt (n - 1), rawInt n, rawInt (-1)] } }) (by decide +kernel) F.create_reversed ⟨_, _, F.mro_reversed⟩ F.made_reversed sub_ri_reversed (F.typeCall_reversed_1 _) (code_reversed_newR hl h0 h1 ⟨rfl, rfl⟩) ?_
  rintro obj s₁ ⟨rfl, rfl⟩
  exact ⟨⟨_, Heap.get?_push_size _ rfl, rfl⟩, h⟩
end
section
variable {X : Cx} {tg : Expr}
/-- a range object -/
theorem call_range1 : CallR X (.type "range") (fun xs H Q => ∃ j, xs = [.int j] ∧ ∀ p, H p = none → Q (.ref p) (upd H p (.rng 0 j))) := by
  intro pins s σ H xs us Q I r h
  obtain ⟨j, e, q⟩ := h
  subst e
  obtain ⟨u, rfl, r1⟩ := vals1 r
  obtain ⟨t, rfl⟩ := r1
  refine call_range_1 ⟨.ref s.heap.objs.size, upd H s.heap.objs.size (.rng 0 j), ?_, rfl, q _ (I.hok.fresh (Nat.le_refl _))⟩
  exact I.laid (fun b u e => Heap.get?_push_of_some _ e) (Nat.le_refl _) ⟨_, _, _, Heap.get?_push_size _ rfl⟩
def Itd (n : Nat) : It := ⟨fun i _ => i < n, fun i H x H' => H' = H ∧ x = .int ((n : Int) - 1 - i), fun i _ => n ≤ i⟩
theorem turn_down {P : Program} {w : World} {K : PySem.W.Frag} {tg : Expr} (it : Addr) (n : Nat) : Turn P w K tg (Itd n) [it] it (fun i h => IsRangeIter h it ((n : Int) - 1 + (i : Nat) * (-1)) ((n : Int) - (i : Nat)) (-1)) where
  mem := by simp
  obj := fun i h st b hb => by
    have e : b = it := by simpa using hb
    subst e
    exact ⟨_, st, fun v z => by
      have z' : Data.fields _ = Data.cell v := z
      cases z'⟩
  keep := fun i h h' st k => k it (by simp) _ st
  item := by
    intro X hP hw hK hc i pins s σ H E I hf st hg
    subst hP hw hK
    obtain ⟨f0, f1, f2, f3, f4, f5⟩ := hf it (by simp)
    have W := Walks.range (prog := X.prog) (w := X.w) (I.ok.hd hc) it ((n : Int) - 1) (-1) n
    refine W.item i s _ _ hg st fun v h' tk hv st' kk => ?_
    obtain ⟨t, rfl⟩ := hv
    have I1 : Inv X pins σ H { s with heap := h', toks := tk } := I.turned (fun b o hb e => kk b o (by simpa using hb) e) f0 f1 f3 f4 f5
    refine ⟨_, rfl, go_of (s := { s with heap := h', toks := tk }) (n := "range_iterator") st' rfl rfl (by decide) ⟨.int ((n : Int) - 1 - i), H, I1, ⟨t, ?_⟩, ⟨rfl, rfl⟩, st', fun b hb => (hf b hb).1⟩⟩
    rw [show (n : Int) - 1 + (i : Int) * -1 = (n : Int) - 1 - i by omega]
  done := by
    intro X hP hw hK hc i pins s σ H E I hf st hg
    subst hP hw hK
    obtain ⟨f0, f1, f2, f3, f4, f5⟩ := hf it (by simp)
    exact wpAny_pyNext_range_end (I.ok.hd hc) st (by have : n ≤ i := hg; omega) fun h' eb => ⟨rfl, I.turned (t' := s.toks) (fun b o hb e => eb b o hb e) f0 f1 f3 f4 f5⟩
  self := fun _ _ _ _ _ st h => wpAny_pyIter_rangeiter st h
def iRevR (ta : TA) : TI := fun σ H R => ta σ H fun vs H1 => ∃ a j, vs = [.ref a] ∧ H1 a = some (.rng 0 j) ∧ 0 ≤ j ∧ j < 2 ^ 62 ∧ R (Itd j.toNat) H1
theorem pi_revR {a : Expr} {ta : TA} {p pos : Pos} (hg : Gl X "reversed") (hm : X.mg "reversed" = none) (ha : PA X [a] ta) (hs : starEach [a] X.env = [(false, eval a X.env)] := by rfl) : PI X tg (.Call (.Name "reversed" p) [a] [] pos) (iRevR ta) := by
  intro pins s σ H R I h
  refine Call_ (ld_blt I hg hm boot_rev (PyProof.Rows.callWith_type1 (thn (ha pos pins s σ H _ I h) fun us s1 ⟨vs, H1, I1, r1, q1⟩ => ?_) hs rfl))
  obtain ⟨b, j, e, hq, j0, j1, q⟩ := q1
  subst e
  cases r1 with
  | cons r rr =>
    cases rr
    cases r
    obtain ⟨t, u, v, ho⟩ := (show ObjOk X.prog X.w H1 s1.heap b (.rng 0 j) from I1.hok b _ hq)
    have I2 : Inv X pins σ H1 { s1 with heap := s1.heap.push { cls := .type "range_iterator", data := .fields #[rawInt (j - 1), rawInt j, rawInt (-1)] } } := I1.kept (t' := s1.toks) fun b o e => Heap.get?_push_of_some _ e
    refine call_reversed_range ho j0 j1 (wpAny_pyIter_rangeiter (Heap.get?_push_size _ rfl) ?_)
    refine ⟨s1.heap.objs.size, [s1.heap.objs.size], _, _, H1, rfl, I2, turn_down _ j.toNat, ?_, fun c hb => ?_, q⟩
    · show IsRangeIter _ _ (((j.toNat : Nat) : Int) - 1 + ((0 : Nat) : Int) * (-1)) (((j.toNat : Nat) : Int) - ((0 : Nat) : Int)) (-1)
      rw [show ((j.toNat : Nat) : Int) - 1 + ((0 : Nat) : Int) * (-1) = j - 1 by omega, show ((j.toNat : Nat) : Int) - ((0 : Nat) : Int) = j by omega]
      exact Heap.get?_push_size _ rfl
    · have e : c = s1.heap.objs.size := by simpa using hb
      subst e
      exact I1.fpOk (Nat.le_refl _) (I1.hok.fresh (Nat.le_refl _))
end
end L2

set_option Elab.async false
set_option linter.all false
set_option maxRecDepth 100000
set_option maxHeartbeats 4000000
namespace L2
open PySem PySem.Spec PyProof.Rows
section
variable {X : Cx} {st : Stmt} {rest : List Stmt} {t u : TS}
/-- two statements with a word between them -/
def tCut (t u : TS) : TS := fun D σ H => ∃ M : St → Hp → Prop, t { D with nx := M } σ H ∧ ∀ σ' H', M σ' H' → u D σ' H'
end
theorem bt_int : bootBuiltins "int" = some (.type "int") := by decide +kernel
theorem bt_max : bootBuiltins "max" = some (.builtin "max") := by decide +kernel
theorem bt_min : bootBuiltins "min" = some (.builtin "min") := by decide +kernel
theorem bt_tuple : bootBuiltins "tuple" = some (.type "tuple") := by decide +kernel
theorem bt_zip : bootBuiltins "zip" = some (.type "zip") := by decide +kernel
end L2
namespace L2
open PySem
/-- the law's own list, which nothing writes -/
def Scr (K : PySem.W.Frag) (H : Hp) (a : Addr) (xs : List V) : Prop := (∃ o, H a = some (.frz o (.lst xs))) ∨ ∀ H', SqL K H' a xs
theorem Scr.sq {K : PySem.W.Frag} {H : Hp} {a : Addr} {xs : List V} (h : Scr K H a xs) : SqL K H a xs := by
  rcases h with ⟨o, h⟩ | h
  · exact .inl (.inr ⟨o, h⟩)
  · exact h H
theorem Scr.of {K : PySem.W.Frag} {H : Hp} {a : Addr} {xs : List V} (hO : Only H) (h : SqL K H a xs) : Scr K H a xs := by
  rcases h with (h | ⟨o, h⟩) | h
  · rcases hO a with z | ⟨o, ys, z⟩
    · rw [h] at z; cases z
    · rw [h] at z; cases z
  · exact .inl ⟨o, h⟩
  · exact .inr fun _ => .inr h
/-- all but the list at l as it was -/
def SB (l : Addr) (H H' : Hp) : Prop := ∀ x o, x ≠ l → H x = some o → H' x = some o
theorem Scr.sb {K : PySem.W.Frag} {H H' : Hp} {a l : Addr} {xs ys : List V} (h : Scr K H a xs) (hl : H l = some (.lst ys)) (s : SB l H H') : Scr K H' a xs := by
  rcases h with ⟨o, h⟩ | h
  · exact .inl ⟨o, s _ _ (ne_of h hl (by intro z; cases z)) h⟩
  · exact .inr h
theorem Scr.same {K : PySem.W.Frag} {H H' : Hp} {a : Addr} {xs : List V} (h : Scr K H a xs) (s : Same H H') : Scr K H' a xs := by
  rcases h with ⟨o, h⟩ | h
  · exact .inl ⟨o, s _ _ h⟩
  · exact .inr h
theorem SB.trans {l : Addr} {H H1 H2 : Hp} (s : SB l H H1) (t : SB l H1 H2) : SB l H H2 := fun x u n e => t x u n (s x u n e)
open PySem.Spec PyProof.Rows
section
variable {X : Cx}
end
end L2

set_option Elab.async false
set_option linter.all false
set_option maxRecDepth 100000
set_option maxHeartbeats 4000000
namespace Com
open PySem L2
/-! ### the mathematics -/
structure IW (n k high low past now : Int) : Prop where
  h0 : 0 ≤ high
  hb : high ≤ 1000000
  l0 : 0 ≤ low
  lb : low ≤ 1000000
  g : Int.gcd high low = Int.gcd n (k % n)
  d1 : n ∣ k * past - high
  d2 : n ∣ k * now - low
def InvIs (n k : Int) (v : V) : Prop := (Int.gcd n (k % n) = 1 ∧ ∃ r : Int, v = .int r ∧ 0 ≤ r ∧ r < n ∧ r * k % n = 1) ∨ (Int.gcd n (k % n) ≠ 1 ∧ v = .non)
structure PV (n k e told square left : Int) : Prop where
  t0 : 0 ≤ told
  t1 : told < n
  s0 : 0 ≤ square
  s1 : square < n
  l0 : 0 ≤ left
  eq : told * square ^ left.toNat % n = k ^ e.toNat % n
def bitsN : List Int → Nat
  | [] => 0
  | b :: r => b.toNat + 2 * bitsN r
/-- the digits so far, the rest still to write -/
structure DG (e0 e : Int) (ds : List Int) : Prop where
  nn : 0 ≤ e
  bit : ∀ d ∈ ds, d = 0 ∨ d = 1
  len : ∃ m : Nat, e.toNat < 2 ^ m ∧ ds.length + m = 62
  val : ∀ r, bitsN r = e.toNat → bitsN (ds ++ r) = e0.toNat
/-- the three cells of a box -/
def BoxAt (H : Hp) (b : Addr) : Prop := ∃ c s t : Int, H b = some (.lst [.int c, .int s, .int t])
/-- all else as it was, the box still a box -/
def Keep (b : Addr) (H H' : Hp) : Prop := (∀ a o, a ≠ b → H a = some o → H' a = some o) ∧ BoxAt H' b
def spTake : Sp := fun vs H Q _ => ∃ (b : Addr) (m : Int), vs = [.ref b, .int m] ∧ BoxAt H b ∧ 0 < m ∧ m < 18446744073709551616 ∧
  ∀ (d : Int) (H' : Hp), 0 ≤ d → d < m → Keep b H H' → Q (.int d) H'
theorem Keep.trans {b : Addr} {H H1 H2 : Hp} (x : Keep b H H1) (y : Keep b H1 H2) : Keep b H H2 := ⟨fun a o n e => y.1 a o n (x.1 a o n e), y.2⟩
theorem Keep.same {b : Addr} {H H1 H2 : Hp} (x : Keep b H H1) (y : Same H1 H2) : Keep b H H2 := ⟨fun a o n e => y a o (x.1 a o n e), by obtain ⟨c, s, t, h⟩ := x.2; exact ⟨c, s, t, y _ _ h⟩⟩
def spBox (K : PySem.W.Frag) : Sp := fun vs H Q _ => ∃ (a : Addr) (ns : List Int) (k : Int), vs = [.ref a, .int k] ∧ SqL K H a (ns.map V.int) ∧ ns.length ≤ 63 ∧ 0 ≤ k ∧ k < 1000 ∧
  ∀ (b : Addr) (H' : Hp), H b = none → BoxAt H' b → Same H H' → Q (.ref b) H'
def spSh : Sp := fun vs H Q _ => ∃ (x y : Int), vs = [.int x, .int y] ∧ 0 ≤ x ∧ 0 ≤ y ∧ Q (.int (Int.gcd x y : Nat)) H
def WSh (H : Hp) (g : Nat) (m : Nat) (σ : St) (H' : Hp) : Prop := H' = H ∧ ∃ x y : Int, σ = [some (.int x), some (.int y)] ∧ 0 ≤ x ∧ 0 ≤ y ∧ Int.gcd x y = g ∧ m = y.toNat
def spInv : Sp := fun vs H Q _ => ∃ (n k : Int), vs = [.int n, .int k] ∧ 2 ≤ n ∧ n ≤ 1000000 ∧ ∀ v H', InvIs n k v → Same H H' → Q v H'
def WInv (H : Hp) (n k : Int) (m : Nat) (σ : St) (H' : Hp) : Prop := H' = H ∧ ∃ (a b c d : Int) (o : Option V), σ = [some (.int n), some (.int k), some (.int a), some (.int b), some (.int c), some (.int d), o] ∧ IW n k a b c d ∧ m = b.toNat
def spPow : Sp := fun vs H Q _ => ∃ (n k e : Int), vs = [.int n, .int k, .int e] ∧ 2 ≤ n ∧ n ≤ 1000000 ∧ 0 ≤ e ∧ Q (.int (k ^ e.toNat % n)) H
def WPow (H : Hp) (n k e : Int) (m : Nat) (σ : St) (H' : Hp) : Prop := H' = H ∧ ∃ a b c : Int, σ = [some (.int n), some (.int k), some (.int e), some (.int a), some (.int b), some (.int c)] ∧ PV n k e a b c ∧ m = c.toNat
theorem small {n : Nat} (h : n ≤ 1000) : n ≤ sizeLine := Nat.le_of_lt (small1000 h)
def someN : List Int := [2, 3, 4, 5, 6, 7, 8, 9, 12, 16, 30, 36, 49, 64, 91, 97, 210, 1009, 65536, 999983, 999999, 1000000]
def spN : Sp := fun vs H Q _ => ∃ (b : Addr), vs = [.ref b] ∧ BoxAt H b ∧ ∀ (n : Int) (H' : Hp), 2 ≤ n → n ≤ 1000000 → Keep b H H' → Q (.int n) H'
end Com

set_option Elab.async false
set_option linter.all false
set_option maxRecDepth 100000
set_option maxHeartbeats 4000000
/-! the rules that speak of the written part, with it named: for use inside a comprehension -/
namespace L2
open PySem PySem.Spec PyProof.Rows
section
variable {X : Cx} {K : PySem.W.Frag}
def rLenS (K : PySem.W.Frag) : List V → Hp → VK → Prop := fun xs H Q => ∃ p ys, xs = [.ref p] ∧ (SqL K H p ys ∨ SqT K H p ys) ∧ Q (.int ys.length) H
end
end L2

set_option Elab.async false
set_option linter.all false
set_option maxRecDepth 100000
set_option maxHeartbeats 4000000
namespace EV
open PySem PySem.Spec PyProof.Rows L2

abbrev St := L2.St
/-- data without the heap: never changed once made -/
inductive D where
  | non | bl (b : Bool) | int (i : Int) | str (x : Str) | tup (xs : List D) | lst (xs : List D) | fz (xs : List D)
/-- a value: data, or one of the lists that may be changed -/
inductive W where
  | d (x : D) | ref (i : Nat)
abbrev Lc := List (Option W)
abbrev Mm := List (List D)
structure Exn where
  cls : String
  fld : List D
inductive Oc (α : Type) where
  | ok (a : α) (M : Mm) | ex (x : Exn) (M : Mm) | bad
def Oc.bind {α β : Type} (o : Oc α) (k : α → Mm → Oc β) : Oc β := match o with
  | .ok a M => k a M
  | .ex x M => .ex x M
  | .bad => .bad
@[simp] theorem bind_ok {α β : Type} (a : α) (M : Mm) (k : α → Mm → Oc β) : (Oc.ok a M).bind k = k a M := rfl
@[simp] theorem bind_ex {α β : Type} (x : Exn) (M : Mm) (k : α → Mm → Oc β) : (Oc.ex x M : Oc α).bind k = .ex x M := rfl
@[simp] theorem bind_bad {α β : Type} (k : α → Mm → Oc β) : (Oc.bad : Oc α).bind k = .bad := rfl

section
variable (K : PySem.W.Frag) (μ : List Addr) (H : Hp)
def FzL (a : Addr) (vs : List V) : Prop := (∃ o, H a = some (.frz o (.lst vs))) ∨
  ∃ (o : Obj) (its : Array Value) (n : Nat), K.lookup a = some o ∧ o.cls = .type "list" ∧ o.dict = none ∧ o.data = .seq its n ∧ its.size ≤ sizeLine ∧ Vals vs its.toList
mutual
def Rp : D → V → Prop
  | .non, v => v = .non
  | .bl b, v => v = .bl b
  | .int i, v => v = .int i
  | .str x, v => v = .str x
  | .tup ds, v => ∃ a vs, v = .ref a ∧ H a = some (.tup vs) ∧ Rps ds vs
  | .lst ds, v => ∃ a vs, v = .ref a ∧ H a = some (.lst vs) ∧ a ∉ μ ∧ Rps ds vs
  | .fz ds, v => ∃ a vs, v = .ref a ∧ FzL K H a vs ∧ Rps ds vs
def Rps : List D → List V → Prop
  | [], vs => vs = []
  | d :: ds, vs => ∃ v r, vs = v :: r ∧ Rp d v ∧ Rps ds r
end
def Rw : W → V → Prop
  | .d x, v => Rp K μ H x v
  | .ref i, v => ∃ a, μ[i]? = some a ∧ v = .ref a
def Rws : List W → List V → Prop
  | [], vs => vs = []
  | d :: ds, vs => ∃ v r, vs = v :: r ∧ Rw K μ H d v ∧ Rws ds r
structure HR (M : Mm) : Prop where
  len : μ.length = M.length
  nd : μ.Nodup
  ent : ∀ (i : Nat) (a : Addr) (ds : List D), μ[i]? = some a → M[i]? = some ds → ∃ vs, H a = some (.lst vs) ∧ Rps K μ H ds vs
structure LR (L : Lc) (σ : St) : Prop where
  len : L.length = σ.length
  ent : ∀ (i : Nat) (w : W), L[i]? = some (some w) → ∃ v, σ[i]? = some (some v) ∧ Rw K μ H w v
end
structure Ext (μ : List Addr) (H : Hp) (μ' : List Addr) (H' : Hp) : Prop where
  keep : ∀ a o, a ∉ μ → H a = some o → H' a = some o
  new : ∀ a, a ∈ μ' → a ∈ μ ∨ H a = none
  pre : ∀ (i : Nat) (a : Addr), μ[i]? = some a → μ'[i]? = some a

section
variable {K : PySem.W.Frag} {μ μ1 μ2 : List Addr} {H H1 H2 : Hp} {M : Mm}
theorem FzL.sq {a : Addr} {vs : List V} (h : FzL K H a vs) : SqL K H a vs := by
  rcases h with ⟨o, h⟩ | h
  · exact .inl (.inr ⟨o, h⟩)
  · exact .inr h
theorem Ext.refl : Ext μ H μ H := ⟨fun _ _ _ h => h, fun _ h => .inl h, fun _ _ h => h⟩
theorem Ext.out (e : Ext μ H μ1 H1) {a : Addr} {o : HO} (h : H a = some o) (n : a ∉ μ) : a ∉ μ1 := fun z => by
  rcases e.new a z with z | z
  · exact n z
  · rw [h] at z; cases z
theorem Ext.trans (e : Ext μ H μ1 H1) (f : Ext μ1 H1 μ2 H2) : Ext μ H μ2 H2 where
  keep := fun a o n h => f.keep a o (e.out h n) (e.keep a o n h)
  new := fun a h => by
    rcases f.new a h with h | h
    · exact e.new a h
    · by_cases n : a ∈ μ
      · exact .inl n
      · cases q : H a with
        | none => exact .inr rfl
        | some o => rw [e.keep a o n q] at h; cases h
  pre := fun i a h => f.pre i a (e.pre i a h)
/-- the lists that may be changed stand in the heap -/
def Lsts (μ : List Addr) (H : Hp) : Prop := ∀ a ∈ μ, ∃ vs, H a = some (.lst vs)
theorem HR.lsts (h : HR K μ H M) : Lsts μ H := fun a ha => by
  obtain ⟨i, hi, e⟩ := List.mem_iff_getElem.mp ha
  have hM : i < M.length := h.len ▸ hi
  obtain ⟨vs, q, _⟩ := h.ent i a M[i] (by rw [List.getElem?_eq_getElem hi, e]) (by simp [hM])
  exact ⟨vs, q⟩
theorem Rd.ext {a : Addr} {u : HO} (hu : ∀ vs, u ≠ .lst vs) (l : Lsts μ H) (e : Ext μ H μ1 H1) (h : Rd H a u) : Rd H1 a u := by
  rcases h with h | ⟨o, h⟩
  · exact .inl (e.keep a _ (fun z => by obtain ⟨vs, q⟩ := l a z; rw [h] at q; cases q; exact hu _ rfl) h)
  · exact .inr ⟨o, e.keep a _ (fun z => by obtain ⟨vs, q⟩ := l a z; rw [h] at q; cases q) h⟩
theorem SqT.ext {a : Addr} {vs : List V} (l : Lsts μ H) (e : Ext μ H μ1 H1) (h : SqT K H a vs) : SqT K H1 a vs := by
  rcases h with h | h
  · exact .inl (Rd.ext (fun _ z => by cases z) l e h)
  · exact .inr h
theorem FzL.ext {a : Addr} {vs : List V} (l : Lsts μ H) (e : Ext μ H μ1 H1) (h : FzL K H a vs) : FzL K H1 a vs := by
  rcases h with ⟨o, h⟩ | h
  · exact .inl ⟨o, e.keep a _ (fun z => by obtain ⟨vs, q⟩ := l a z; rw [h] at q; cases q) h⟩
  · exact .inr h
mutual
theorem Rp.ext (l : Lsts μ H) (e : Ext μ H μ1 H1) : ∀ (d : D) (v : V), Rp K μ H d v → Rp K μ1 H1 d v
  | .non, v, h => by simpa [Rp] using h
  | .bl b, v, h => by simpa [Rp] using h
  | .int b, v, h => by simpa [Rp] using h
  | .str b, v, h => by simpa [Rp] using h
  | .tup ds, v, h => by
    simp only [Rp] at h ⊢
    obtain ⟨a, vs, e1, e2, e3⟩ := h
    exact ⟨a, vs, e1, e.keep _ _ (fun z => by obtain ⟨us, q⟩ := l a z; rw [e2] at q; cases q) e2, Rps.ext l e ds vs e3⟩
  | .lst ds, v, h => by
    simp only [Rp] at h ⊢
    obtain ⟨a, vs, e1, e2, n, e3⟩ := h
    exact ⟨a, vs, e1, e.keep _ _ n e2, e.out e2 n, Rps.ext l e ds vs e3⟩
  | .fz ds, v, h => by
    simp only [Rp] at h ⊢
    obtain ⟨a, vs, e1, e2, e3⟩ := h
    exact ⟨a, vs, e1, FzL.ext l e e2, Rps.ext l e ds vs e3⟩
theorem Rps.ext (l : Lsts μ H) (e : Ext μ H μ1 H1) : ∀ (ds : List D) (vs : List V), Rps K μ H ds vs → Rps K μ1 H1 ds vs
  | [], vs, h => by simpa [Rps] using h
  | d :: ds, vs, h => by
    simp only [Rps] at h ⊢
    obtain ⟨v, r, e1, e2, e3⟩ := h
    exact ⟨v, r, e1, Rp.ext l e d v e2, Rps.ext l e ds r e3⟩
end
theorem Rw.ext (l : Lsts μ H) (e : Ext μ H μ1 H1) {w : W} {v : V} (h : Rw K μ H w v) : Rw K μ1 H1 w v := by
  cases w with
  | d x => exact Rp.ext l e x v h
  | ref i => obtain ⟨a, h1, h2⟩ := h; exact ⟨a, e.pre i a h1, h2⟩
theorem Rws.ext (l : Lsts μ H) (e : Ext μ H μ1 H1) : ∀ {ws : List W} {vs : List V}, Rws K μ H ws vs → Rws K μ1 H1 ws vs
  | [], _, h => h
  | _ :: _, _, ⟨v, r, e1, e2, e3⟩ => ⟨v, r, e1, Rw.ext l e e2, Rws.ext l e e3⟩
theorem LR.ext (l : Lsts μ H) (e : Ext μ H μ1 H1) {L : Lc} {σ : St} (h : LR K μ H L σ) : LR K μ1 H1 L σ :=
  ⟨h.len, fun i w q => let ⟨v, q1, q2⟩ := h.ent i w q; ⟨v, q1, Rw.ext l e q2⟩⟩
/-- Rps by places -/
theorem Rps.length : ∀ {ds : List D} {vs : List V}, Rps K μ H ds vs → ds.length = vs.length
  | [], _, h => by simp only [Rps] at h; subst h; rfl
  | _ :: _, _, h => by simp only [Rps] at h; obtain ⟨v, r, e1, _, e3⟩ := h; subst e1; simp [Rps.length e3]
theorem Rps.get : ∀ {ds : List D} {vs : List V} {i : Nat} {d : D}, Rps K μ H ds vs → ds[i]? = some d → ∃ v, vs[i]? = some v ∧ Rp K μ H d v
  | [], _, _, _, _, q => by simp at q
  | _ :: _, _, 0, _, h, q => by simp only [Rps] at h; obtain ⟨v, r, e1, e2, e3⟩ := h; simp at q; subst q e1; exact ⟨v, rfl, e2⟩
  | _ :: _, _, i + 1, _, h, q => by
    simp only [Rps] at h; obtain ⟨v, r, e1, e2, e3⟩ := h; subst e1
    obtain ⟨u, q1, q2⟩ := Rps.get (i := i) e3 (by simpa using q)
    exact ⟨u, by simpa using q1, q2⟩
theorem Rps.nil : Rps K μ H [] [] := by simp [Rps]
theorem Rps.cons {d : D} {v : V} {ds : List D} {vs : List V} (h : Rp K μ H d v) (t : Rps K μ H ds vs) : Rps K μ H (d :: ds) (v :: vs) := by simp only [Rps]; exact ⟨v, vs, rfl, h, t⟩
theorem Rps.append : ∀ {ds es : List D} {vs us : List V}, Rps K μ H ds vs → Rps K μ H es us → Rps K μ H (ds ++ es) (vs ++ us)
  | [], _, _, _, h, t => by simp only [Rps] at h; subst h; exact t
  | _ :: _, _, _, _, h, t => by simp only [Rps] at h; obtain ⟨v, r, e1, e2, e3⟩ := h; subst e1; exact .cons e2 (Rps.append e3 t)
theorem Rps.drop : ∀ {ds : List D} {vs : List V} (n : Nat), Rps K μ H ds vs → Rps K μ H (ds.drop n) (vs.drop n)
  | _, _, 0, h => by simpa using h
  | [], _, n + 1, h => by simp only [Rps] at h; subst h; exact .nil
  | _ :: _, _, n + 1, h => by simp only [Rps] at h; obtain ⟨v, r, e1, e2, e3⟩ := h; subst e1; simpa using Rps.drop n e3
theorem Rps.take : ∀ {ds : List D} {vs : List V} (n : Nat), Rps K μ H ds vs → Rps K μ H (ds.take n) (vs.take n)
  | _, _, 0, h => by simpa using Rps.nil
  | [], _, n + 1, h => by simp only [Rps] at h; subst h; exact .nil
  | _ :: _, _, n + 1, h => by simp only [Rps] at h; obtain ⟨v, r, e1, e2, e3⟩ := h; subst e1; simpa using Rps.cons e2 (Rps.take n e3)
theorem Rps.set {d : D} {v : V} (q : Rp K μ H d v) : ∀ {ds : List D} {vs : List V} (n : Nat), Rps K μ H ds vs → Rps K μ H (ds.set n d) (vs.set n v)
  | [], _, n, h => by simp only [Rps] at h; subst h; simpa using Rps.nil
  | _ :: _, _, 0, h => by simp only [Rps] at h; obtain ⟨u, r, e1, e2, e3⟩ := h; subst e1; simpa using Rps.cons q e3
  | _ :: _, _, n + 1, h => by simp only [Rps] at h; obtain ⟨u, r, e1, e2, e3⟩ := h; subst e1; simpa using Rps.cons e2 (Rps.set q n e3)
theorem Rps.dropLast {ds : List D} {vs : List V} (h : Rps K μ H ds vs) : Rps K μ H ds.dropLast vs.dropLast := by
  rw [List.dropLast_eq_take, List.dropLast_eq_take, ← h.length]; exact h.take _
theorem Rps.eraseIdx : ∀ {ds : List D} {vs : List V} (n : Nat), Rps K μ H ds vs → Rps K μ H (ds.eraseIdx n) (vs.eraseIdx n)
  | [], _, n, h => by simp only [Rps] at h; subst h; simpa using Rps.nil
  | _ :: _, _, 0, h => by simp only [Rps] at h; obtain ⟨u, r, e1, e2, e3⟩ := h; subst e1; simpa using e3
  | _ :: _, _, n + 1, h => by simp only [Rps] at h; obtain ⟨u, r, e1, e2, e3⟩ := h; subst e1; simpa using Rps.cons e2 (Rps.eraseIdx n e3)
theorem Rps.reverse {ds : List D} : ∀ {vs : List V}, Rps K μ H ds vs → Rps K μ H ds.reverse vs.reverse := by
  induction ds with
  | nil => intro vs h; simp only [Rps] at h; subst h; exact .nil
  | cons d ds ih => intro vs h; simp only [Rps] at h; obtain ⟨u, r, e1, e2, e3⟩ := h; subst e1; simpa using (ih e3).append (.cons e2 .nil)
theorem Rps.rep {ds : List D} {vs : List V} (h : Rps K μ H ds vs) : ∀ k : Nat, Rps K μ H (List.replicate k ds).flatten (List.replicate k vs).flatten
  | 0 => by simpa using Rps.nil
  | k + 1 => by simpa [List.replicate_succ] using h.append (h.rep k)
theorem Rps.ints {ns : List Int} : Rps K μ H (ns.map D.int) (ns.map V.int) := by
  induction ns with
  | nil => exact .nil
  | cons n r ih => exact .cons (by simp [Rp]) ih
theorem Rws.length : ∀ {ws : List W} {vs : List V}, Rws K μ H ws vs → ws.length = vs.length
  | [], _, h => by cases h; rfl
  | _ :: _, _, ⟨v, r, e1, _, e3⟩ => by subst e1; simp [Rws.length e3]
theorem Rws.get : ∀ {ws : List W} {vs : List V} {i : Nat} {w : W}, Rws K μ H ws vs → ws[i]? = some w → ∃ v, vs[i]? = some v ∧ Rw K μ H w v
  | [], _, _, _, _, q => by simp at q
  | _ :: _, _, 0, _, ⟨v, r, e1, e2, e3⟩, q => by simp at q; subst q e1; exact ⟨v, rfl, e2⟩
  | _ :: _, _, i + 1, _, ⟨v, r, e1, e2, e3⟩, q => by
    subst e1
    obtain ⟨u, q1, q2⟩ := Rws.get (i := i) e3 (by simpa using q)
    exact ⟨u, by simpa using q1, q2⟩

/-! ### the heap's steps -/
theorem HR.out (h : HR K μ H M) {p : Addr} (hp : H p = none) : p ∉ μ := fun z => by
  obtain ⟨vs, q⟩ := h.lsts p z
  rw [hp] at q; cases q
theorem ext_lay (h : HR K μ H M) {p : Addr} {o : HO} (hp : H p = none) : Ext μ H μ (upd H p o) :=
  ⟨fun a u n q => by rw [upd_ne (ne_of_none q hp)]; exact q, fun a q => .inl q, fun _ _ q => q⟩
/-- a new object that nobody changes -/
theorem HR.lay (h : HR K μ H M) {p : Addr} {o : HO} (hp : H p = none) : HR K μ (upd H p o) M where
  len := h.len
  nd := h.nd
  ent := fun i a ds q1 q2 => by
    obtain ⟨vs, q3, q4⟩ := h.ent i a ds q1 q2
    exact ⟨vs, by rw [upd_ne (ne_of_none q3 hp)]; exact q3, Rps.ext h.lsts (ext_lay h hp) _ _ q4⟩
theorem ext_new (h : HR K μ H M) {p : Addr} {vs : List V} (hp : H p = none) : Ext μ H (μ ++ [p]) (upd H p (.lst vs)) where
  keep := fun a u n q => by rw [upd_ne (ne_of_none q hp)]; exact q
  new := fun a q => by
    rcases List.mem_append.mp q with q | q
    · exact .inl q
    · rw [List.mem_singleton] at q; subst q; exact .inr hp
  pre := fun i a q => by
    rw [List.getElem?_append_left (List.getElem?_eq_some_iff.mp q).1]; exact q
/-- a new list that may be changed -/
theorem HR.new (h : HR K μ H M) {p : Addr} {ds : List D} {vs : List V} (hp : H p = none) (r : Rps K μ H ds vs) : HR K (μ ++ [p]) (upd H p (.lst vs)) (M ++ [ds]) where
  len := by simp [h.len]
  nd := List.nodup_append.mpr ⟨h.nd, by simp, fun a ha b hb => by rw [List.mem_singleton] at hb; subst hb; rintro rfl; exact h.out hp ha⟩
  ent := fun i a es q1 q2 => by
    have x := ext_new (vs := vs) h hp
    by_cases hi : i < μ.length
    · rw [List.getElem?_append_left hi] at q1
      rw [List.getElem?_append_left (by rw [← h.len]; exact hi)] at q2
      obtain ⟨us, q3, q4⟩ := h.ent i a es q1 q2
      exact ⟨us, by rw [upd_ne (ne_of_none q3 hp)]; exact q3, Rps.ext h.lsts x _ _ q4⟩
    · have : i = μ.length := by
        have := (List.getElem?_eq_some_iff.mp q1).1
        simp at this; omega
      subst this
      rw [List.getElem?_append_right (Nat.le_refl _)] at q1
      rw [h.len, List.getElem?_append_right (Nat.le_refl _)] at q2
      simp at q1 q2
      subst q1 q2
      exact ⟨vs, upd_same, Rps.ext h.lsts x _ _ r⟩
theorem ext_set {i : Nat} {a : Addr} {o : HO} (q : μ[i]? = some a) : Ext μ H μ (upd H a o) :=
  ⟨fun b u n q' => by rw [upd_ne (fun z => n (by subst z; exact List.mem_of_getElem? q))]; exact q', fun a q => .inl q, fun _ _ q => q⟩
/-- a list is changed -/
theorem HR.set (h : HR K μ H M) {i : Nat} {a : Addr} {ds : List D} {vs : List V} (q : μ[i]? = some a) (r : Rps K μ H ds vs) : HR K μ (upd H a (.lst vs)) (M.set i ds) where
  len := by simp [h.len]
  nd := h.nd
  ent := fun j b es q1 q2 => by
    have x := ext_set (H := H) (o := .lst vs) q
    by_cases hj : i = j
    · subst hj
      rw [q] at q1; cases q1
      have hlt : i < M.length := by rw [← h.len]; exact (List.getElem?_eq_some_iff.mp q).1
      rw [List.getElem?_set_self hlt] at q2; cases q2
      exact ⟨vs, upd_same, Rps.ext h.lsts x _ _ r⟩
    · rw [List.getElem?_set_ne hj] at q2
      obtain ⟨us, q3, q4⟩ := h.ent j b es q1 q2
      have hb : b ≠ a := by
        rintro rfl
        have h1 := (List.getElem?_eq_some_iff.mp q).1
        have h2 := (List.getElem?_eq_some_iff.mp q1).1
        have e1 := (List.getElem?_eq_some_iff.mp q).2
        have e2 := (List.getElem?_eq_some_iff.mp q1).2
        have pw := List.pairwise_iff_getElem.mp h.nd
        rcases Nat.lt_or_gt_of_ne hj with l | l
        · exact pw i j h1 h2 l (e1.trans e2.symm)
        · exact pw j i h2 h1 l (e2.trans e1.symm)
      exact ⟨us, by rw [upd_ne hb]; exact q3, Rps.ext h.lsts x _ _ q4⟩
theorem HR.at (h : HR K μ H M) {i : Nat} {ds : List D} (q : M[i]? = some ds) : ∃ a vs, μ[i]? = some a ∧ H a = some (.lst vs) ∧ Rps K μ H ds vs := by
  have hlt : i < μ.length := by rw [h.len]; exact (List.getElem?_eq_some_iff.mp q).1
  obtain ⟨vs, q1, q2⟩ := h.ent i μ[i] ds (by simp [hlt]) q
  exact ⟨μ[i], vs, by simp [hlt], q1, q2⟩
end

/-! ### what is wanted behind -/
/-- what is wanted of an exception -/
structure Zt where
  z : Exn → Mm → List Addr → Hp → Prop
  mono : ∀ {x M μ H μ' H'}, Ext μ H μ' H' → z x M μ H → z x M μ' H'
def Z0 : Zt := ⟨fun _ _ _ _ => False, fun _ h => h⟩
def Pst {α : Type} (K : PySem.W.Frag) (Z : Zt) (μ : List Addr) (H : Hp) (o : Oc α) (Q : List Addr → Hp → Mm → α → Prop) : Prop := match o with
  | .ok a M' => ∀ μ' H', Ext μ H μ' H' → HR K μ' H' M' → Q μ' H' M' a
  | .ex x M' => Z.z x M' μ H
  | .bad => False
section
variable {α β : Type} {K : PySem.W.Frag} {Z : Zt} {μ μ1 : List Addr} {H H1 : Hp} {o : Oc α} {Q Q' : List Addr → Hp → Mm → α → Prop}
theorem Pst.mono (e : Ext μ H μ1 H1) (h : Pst K Z μ H o Q) : Pst K Z μ1 H1 o Q := by
  cases o with
  | ok a M => exact fun μ' H' e' hr => h μ' H' (e.trans e') hr
  | ex x M => exact Z.mono e h
  | bad => exact h
theorem Pst.imp (h : Pst K Z μ H o Q) (f : ∀ μ' H' M' a, Ext μ H μ' H' → HR K μ' H' M' → o = .ok a M' → Q μ' H' M' a → Q' μ' H' M' a) : Pst K Z μ H o Q' := by
  cases o with
  | ok a M => exact fun μ' H' e' hr => f μ' H' M a e' hr rfl (h μ' H' e' hr)
  | ex x M => exact h
  | bad => exact h
theorem Pst.bind {k : α → Mm → Oc β} {R : List Addr → Hp → Mm → β → Prop} (h : Pst K Z μ H (o.bind k) R) : Pst K Z μ H o (fun μ' H' M' a => Pst K Z μ' H' (k a M') R) := by
  cases o with
  | ok a M => exact fun μ' H' e' hr => Pst.mono e' h
  | ex x M => exact h
  | bad => exact h
end
abbrev FE := Lc → Mm → Oc W
abbrev FT := Lc → Mm → Oc Bool
abbrev FA := Lc → Mm → Oc (List W)
inductive Out where
  | nx (L : Lc) | bk (L : Lc) | ct (L : Lc) | rt (w : W)
abbrev FS := Lc → Mm → Oc Out
abbrev FG := W → Lc → Mm → Oc Lc
abbrev FGs := List D → Lc → Mm → Oc Lc
abbrev Fn := List W → Mm → Oc W
section
variable (K : PySem.W.Frag) (Z : Zt)
def lift (f : FE) : TE := fun σ H Q => ∃ μ M L, HR K μ H M ∧ LR K μ H L σ ∧ Pst K Z μ H (f L M) fun μ' H' _ w => ∀ v, Rw K μ' H' w v → Q v H'
def liftT (f : FT) : TT := fun σ H Q => ∃ μ M L, HR K μ H M ∧ LR K μ H L σ ∧ Pst K Z μ H (f L M) fun μ' H' M' b => Q b H'
def liftA (f : FA) : TA := fun σ H Q => ∃ μ M L, HR K μ H M ∧ LR K μ H L σ ∧ Pst K Z μ H (f L M) fun μ' H' _ ws => ∀ vs, Rws K μ' H' ws vs → Q vs H'
end
end EV

set_option Elab.async false
set_option linter.all false
set_option maxRecDepth 100000
set_option maxHeartbeats 4000000
namespace EV
open PySem PySem.Spec PyProof.Rows L2

section
variable (X : Cx) (K : PySem.W.Frag) (Z : Zt)
abbrev Sk (K : PySem.W.Frag) (E : Ends) (μ' : List Addr) (H' : Hp) (_ : Mm) (o : Out) : Prop := match o with
  | .nx L' => ∀ σ', LR K μ' H' L' σ' → E.nx σ' H'
  | .bk L' => ∀ σ', LR K μ' H' L' σ' → E.bk σ' H'
  | .ct L' => ∀ σ', LR K μ' H' L' σ' → E.ct σ' H'
  | .rt w => ∀ v, Rw K μ' H' w v → E.rt v H'
def liftS (F : FS) : TS := fun E σ H => ∃ μ M L, HR K μ H M ∧ LR K μ H L σ ∧ Pst K Z μ H (F L M) (Sk K E)
def liftG (g : FG) : TG := fun v σ H Q => ∃ μ M L w, HR K μ H M ∧ LR K μ H L σ ∧ Rw K μ H w v ∧ Pst K Z μ H (g w L M) fun μ' H' _ L' => ∀ σ', LR K μ' H' L' σ' → Q σ' H'
def liftGs (g : FGs) : TGs := fun vs σ H Q => ∃ μ M L ds, HR K μ H M ∧ LR K μ H L σ ∧ Rps K μ H ds vs ∧ Pst K Z μ H (g ds L M) fun μ' H' _ L' => ∀ σ', LR K μ' H' L' σ' → Q σ' H'
structure Ev (e : Expr) (f : FE) : Prop where
  k : X.K = K
  h : PE X e (lift K Z f)
structure Et (e : Expr) (f : FT) : Prop where
  k : X.K = K
  h : PT X e (liftT K Z f)
structure Ew (e : Expr) (f : FT) : Prop where
  k : X.K = K
  h : PW X e (liftT K Z f)
structure Ea (es : List Expr) (f : FA) : Prop where
  k : X.K = K
  h : PA X es (liftA K Z f)
structure Es (st : Stmt) (F : FS) : Prop where
  k : X.K = K
  h : PS X st (liftS K Z F)
structure Ess (st : List Stmt) (F : FS) : Prop where
  k : X.K = K
  h : PSs X st (liftS K Z F)
structure Eg (tg : Expr) (g : FG) : Prop where
  k : X.K = K
  h : PG X tg (liftG K Z g)
structure Egs (tg : List Expr) (g : FGs) : Prop where
  k : X.K = K
  h : PGs X tg (liftGs K Z g)
end

section
variable {X : Cx} {K : PySem.W.Frag} {Z : Zt} {e a b : Expr} {es : List Expr} {pos : Pos} {f fa fb fc : FE} {t ta tb : FT} {fs : FA}
theorem cqE {t t' : TE} (h : PE X e t) (i : ∀ σ H Q, t' σ H Q → t σ H Q) : PE X e t' := fun pins s σ H Q I q => h pins s σ H Q I (i _ _ _ q)
theorem cqT {t t' : TT} (h : PT X e t) (i : ∀ σ H Q, t' σ H Q → t σ H Q) : PT X e t' := fun pins s σ H Q I q => h pins s σ H Q I (i _ _ _ q)
theorem cqW {t t' : TT} (h : PW X e t) (i : ∀ σ H Q, t' σ H Q → t σ H Q) : PW X e t' := fun wh pins s σ H Q I q => h wh pins s σ H Q I (i _ _ _ q)
theorem cqA {t t' : TA} (h : PA X es t) (i : ∀ σ H Q, t' σ H Q → t σ H Q) : PA X es t' := fun p pins s σ H Q I q => h p pins s σ H Q I (i _ _ _ q)
theorem cqS {st : Stmt} {t t' : TS} (h : PS X st t) (i : ∀ E σ H, t' E σ H → t E σ H) : PS X st t' := fun pins s σ H E I q => h pins s σ H E I (i _ _ _ q)
theorem cqSs {st : List Stmt} {t t' : TS} (h : PSs X st t) (i : ∀ E σ H, t' E σ H → t E σ H) : PSs X st t' := fun pins s σ H E I q => h pins s σ H E I (i _ _ _ q)
theorem cqG {t t' : TG} (h : PG X e t) (i : ∀ v σ H Q, t' v σ H Q → t v σ H Q) : PG X e t' := fun pins s σ H v u Q I r q => h pins s σ H v u Q I r (i _ _ _ _ q)
theorem cqGs {t t' : TGs} (h : PGs X es t) (i : ∀ v σ H Q, t' v σ H Q → t v σ H Q) : PGs X es t' := fun pins s σ H v u Q I r q => h pins s σ H v u Q I r (i _ _ _ _ q)

/-! ### names, constants -/
def eV (i : Nat) : FE := fun L M => match L[i]? with
  | some (some w) => .ok w M
  | _ => .bad
def eC (d : D) : FE := fun _ M => .ok (.d d) M
theorem ev_var (i : Nat) {x : Str} (hN : X.N[i]? = some x := by rfl) (hk : X.K = K := by rfl) (hv : Vis X.env.scope x := by first | exact Or.inl rfl | exact Or.inr (Or.inl rfl) | exact Or.inr (Or.inr rfl))
    (hd : (x == ("__debug__" : Str)) = false := by decide) (hcd : (x == ("__classdict__" : Str)) = false := by decide) : Ev X K Z (.Name x pos) (eV i) :=
  ⟨hk, cqE (pe_var hN hv hd hcd) fun σ H Q ⟨μ, M, L, hr, lr, p⟩ => by
    unfold eV at p
    cases q : L[i]? with
    | none => rw [q] at p; exact p.elim
    | some o =>
      cases o with
      | none => rw [q] at p; exact p.elim
      | some w =>
        rw [q] at p
        obtain ⟨v, q1, q2⟩ := lr.ent i w q
        exact ⟨v, q1, p μ H .refl hr v q2⟩⟩
theorem ev_c {d : D} {v : V} (hd : ∀ K μ H, Rp K μ H d v) (hk : X.K = K) (h : PE X e (tC v)) : Ev X K Z e (eC d) :=
  ⟨hk, cqE h fun σ H Q ⟨μ, M, L, hr, lr, p⟩ => p μ H .refl hr v (hd K μ H)⟩
theorem ev_int {i : Int} {j : Nat} (hk : X.K = K := by rfl) : Ev X K Z (.Constant (.int i) j pos) (eC (.int i)) := ev_c (fun _ _ _ => by simp [Rp]) hk pe_int
theorem ev_bl {i : Bool} {j : Nat} (hk : X.K = K := by rfl) : Ev X K Z (.Constant (.bool i) j pos) (eC (.bl i)) := ev_c (fun _ _ _ => by simp [Rp]) hk pe_bl
theorem ev_non {j : Nat} (hk : X.K = K := by rfl) : Ev X K Z (.Constant .none j pos) (eC .non) := ev_c (fun _ _ _ => by simp [Rp]) hk pe_non
theorem ev_str {x : Str} {j : Nat} (hk : X.K = K := by rfl) : Ev X K Z (.Constant (.str x) j pos) (eC (.str x)) := ev_c (fun _ _ _ => by simp [Rp]) hk pe_str

/-! ### operations -/
def e1 (g : W → Mm → Oc W) (f : FE) : FE := fun L M => (f L M).bind g
def e2 (g : W → W → Mm → Oc W) (f1 f2 : FE) : FE := fun L M => (f1 L M).bind fun x M1 => (f2 L M1).bind fun y M2 => g x y M2
abbrev Wk (K : PySem.W.Frag) (Q : VK) : List Addr → Hp → Mm → W → Prop := fun μ' H' _ w => ∀ v, Rw K μ' H' w v → Q v H'
def Op2 (K : PySem.W.Frag) (Z : Zt) (r : R2) (g : W → W → Mm → Oc W) : Prop :=
  ∀ (μ : List Addr) (H : Hp) (M : Mm) (x y : W) (v u : V) (Q : VK), HR K μ H M → Rw K μ H x v → Rw K μ H y u → Pst K Z μ H (g x y M) (Wk K Q) → r v u H Q
def OpG (X : Cx) (K : PySem.W.Frag) (Z : Zt) (f : Value → Value → Sem Value) (g : W → W → Mm → Oc W) : Prop := X.K = K → ∃ r, OpR X f r ∧ Op2 K Z r g
theorem lift2 {r : R2} {g : W → W → Mm → Oc W} (hg : Op2 K Z r g) : ∀ σ H Q, lift K Z (e2 g fa fb) σ H Q → tOp r (lift K Z fa) (lift K Z fb) σ H Q := by
  rintro σ H Q ⟨μ, M, L, hr, lr, p⟩
  refine ⟨μ, M, L, hr, lr, p.bind.imp fun μ1 H1 M1 x e1 hr1 _ p1 v rx => ?_⟩
  refine ⟨μ1, M1, L, hr1, lr.ext hr.lsts e1, p1.bind.imp fun μ2 H2 M2 y e2 hr2 _ p2 u ry => ?_⟩
  exact hg μ2 H2 M2 x y v u Q hr2 (rx.ext hr1.lsts e2) ry p2
theorem ev_op {op : Operator} {g : W → W → Mm → Oc W} (ho : OpG X K Z (binaryOp op) g) (ha : Ev X K Z a fa) (hb : Ev X K Z b fb) : Ev X K Z (.BinOp a op b pos) (e2 g fa fb) := by
  obtain ⟨r, h1, h2⟩ := ho ha.k
  exact ⟨ha.k, cqE (pe_op h1 ha.h hb.h) (lift2 h2)⟩
theorem ev_cmp {op : CmpOp} {g : W → W → Mm → Oc W} (ho : OpG X K Z (compareOp op) g) (ha : Ev X K Z a fa) (hb : Ev X K Z b fb) (hm : behindInMarks op b = false) : Ev X K Z (.Compare a [op] [b] pos) (e2 g fa fb) := by
  obtain ⟨r, h1, h2⟩ := ho ha.k
  exact ⟨ha.k, cqE (pe_cmpR h1 ha.h hb.h hm) (lift2 h2)⟩
/-- a truth as a test -/
def tB (f : FE) : FT := fun L M => (f L M).bind fun w M1 => match w with
  | .d (.bl b) => .ok b M1
  | _ => .bad
theorem et_cmp {op : CmpOp} {g : W → W → Mm → Oc W} (ho : OpG X K Z (compareOp op) g) (ha : Ev X K Z a fa) (hb : Ev X K Z b fb) (hm : behindInMarks op b = false) : Et X K Z (.Compare a [op] [b] pos) (tB (e2 g fa fb)) := by
  obtain ⟨r, h1, h2⟩ := ho ha.k
  refine ⟨ha.k, cqT (pt_cmpR h1 ha.h hb.h hm) ?_⟩
  rintro σ H Q ⟨μ, M, L, hr, lr, p⟩
  refine lift2 h2 σ H _ ⟨μ, M, L, hr, lr, p.bind.imp fun μ1 H1 M1 x e1 hr1 _ p1 v rx => ?_⟩
  cases x with
  | d y => cases y with
    | bl c => exact ⟨c, by simpa [Rw, Rp] using rx, p1 μ1 H1 .refl hr1⟩
    | _ => exact p1.elim
  | ref i => exact p1.elim
def e3c (g g' : W → W → Mm → Oc W) (f1 f2 f3 : FE) : FE := fun L M => (f1 L M).bind fun x M1 => (f2 L M1).bind fun y M2 => (g x y M2).bind fun w M3 => match w with
  | .d (.bl true) => (f3 L M3).bind fun z M4 => g' y z M4
  | .d (.bl false) => .ok (.d (.bl false)) M3
  | _ => .bad

/-! ### truth -/
def tru (M : Mm) : W → Option Bool
  | .d .non => some false
  | .d (.bl b) => some b
  | .d (.int i) => some (i != 0)
  | .d (.str x) => if x.length ≤ 16777216 then some (x.length != 0) else none
  | .d (.tup xs) => some (!xs.isEmpty)
  | .d (.lst xs) => some (!xs.isEmpty)
  | .d (.fz xs) => some (!xs.isEmpty)
  | .ref i => (M[i]?).map fun xs => !xs.isEmpty
def tV (f : FE) : FT := fun L M => (f L M).bind fun w M1 => match tru M1 w with
  | some b => .ok b M1
  | none => .bad
theorem emp {μ : List Addr} {H : Hp} {ds : List D} {vs : List V} (r : Rps K μ H ds vs) : (!ds.isEmpty) = !vs.isEmpty := by
  have := r.length
  cases ds <;> cases vs <;> simp_all
theorem tru_V {μ : List Addr} {H : Hp} {M : Mm} {w : W} {v : V} {b : Bool} (hr : HR K μ H M) (r : Rw K μ H w v) (h : tru M w = some b) : TruV K v H b := by
  cases w with
  | ref i =>
    obtain ⟨a, q, rfl⟩ := r
    simp only [tru, Option.map_eq_some_iff] at h
    obtain ⟨xs, h1, rfl⟩ := h
    obtain ⟨a', vs, q1, q2, q3⟩ := hr.at h1
    rw [q] at q1; cases q1
    exact .inl ⟨vs, SqL.of q2, emp q3⟩
  | d x =>
    cases x with
    | non => simp only [Rw, Rp] at r; subst r; simp only [tru, Option.some.injEq] at h; exact h.symm
    | bl c => simp only [Rw, Rp] at r; subst r; simp only [tru, Option.some.injEq] at h; exact h.symm
    | int i => simp only [Rw, Rp] at r; subst r; simp only [tru, Option.some.injEq] at h; exact h.symm
    | str z =>
      simp only [Rw, Rp] at r; subst r
      simp only [tru] at h
      split at h
      · rename_i hz
        cases h
        refine ⟨by rw [sizeLine_eq]; exact hz, ?_⟩
        rw [Bool.eq_iff_iff]; simp
      · cases h
    | tup xs => simp only [Rw, Rp] at r; obtain ⟨a, vs, rfl, q1, q2⟩ := r; simp only [tru, Option.some.injEq] at h; subst h; exact .inr (.inl ⟨vs, SqT.of q1, emp q2⟩)
    | lst xs => simp only [Rw, Rp] at r; obtain ⟨a, vs, rfl, q1, _, q2⟩ := r; simp only [tru, Option.some.injEq] at h; subst h; exact .inl ⟨vs, SqL.of q1, emp q2⟩
    | fz xs => simp only [Rw, Rp] at r; obtain ⟨a, vs, rfl, q1, q2⟩ := r; simp only [tru, Option.some.injEq] at h; subst h; exact .inl ⟨vs, q1.sq, emp q2⟩
theorem et_val (ha : Ev X K Z a f) (he : ∀ whole, isTrue a X.env whole = (do let v ← whole; standAt a.pos; holding [v] (truthy v)) := by intro _; rfl) : Et X K Z a (tV f) := by
  refine ⟨ha.k, cqT (pt_truth ha.h he) ?_⟩
  rintro σ H Q ⟨μ, M, L, hr, lr, p⟩
  refine ⟨μ, M, L, hr, lr, p.bind.imp fun μ1 H1 M1 x e1 hr1 _ p1 v rx => ?_⟩
  cases q : tru M1 x with
  | none => rw [q] at p1; exact p1.elim
  | some k => rw [q] at p1; exact ⟨k, by rw [ha.k]; exact tru_V hr1 rx q, p1 μ1 H1 .refl hr1⟩
def tNot (t : FT) : FT := fun L M => (t L M).bind fun b M1 => .ok (!b) M1
def tAnd (t u : FT) : FT := fun L M => (t L M).bind fun b M1 => if b = true then u L M1 else .ok false M1
def tOr (t u : FT) : FT := fun L M => (t L M).bind fun b M1 => if b = true then .ok true M1 else u L M1
variable {rest : List Expr}
theorem ew_or1 (ha : Et X K Z a ta) : Ew X K Z (.BoolOp .Or [a] pos) ta := ⟨ha.k, pw_or1 ha.h⟩
theorem ew_or (ha : Et X K Z a ta) (hb : Ew X K Z (.BoolOp .Or (b :: rest) pos) tb) : Ew X K Z (.BoolOp .Or (a :: b :: rest) pos) (tOr ta tb) := by
  refine ⟨ha.k, cqW (pw_or ha.h hb.h) ?_⟩
  rintro σ H Q ⟨μ, M, L, hr, lr, p⟩
  refine ⟨μ, M, L, hr, lr, p.bind.imp fun μ1 H1 M1 x e1 hr1 _ p1 => ?_⟩
  cases x with
  | true => exact p1 μ1 H1 .refl hr1
  | false => exact ⟨μ1, M1, L, hr1, lr.ext hr.lsts e1, p1⟩
theorem et_w (h : Ew X K Z a ta) : Et X K Z a ta := ⟨h.k, h.h.pt⟩
end
end EV

set_option Elab.async false
set_option linter.all false
set_option maxRecDepth 100000
set_option maxHeartbeats 4000000
namespace EV
open PySem PySem.Spec PyProof.Rows L2

/-- the items of a list -/
def lv (M : Mm) : W → Option (List D)
  | .d (.lst xs) => some xs
  | .ref i => M[i]?
  | _ => none
/-- .. of a list that is only read -/
def lr (M : Mm) : W → Option (List D)
  | .d (.fz xs) => some xs
  | w => lv M w
/-- .. of a list or a tuple that is read -/
def sv (M : Mm) : W → Option (List D)
  | .d (.tup xs) => some xs
  | w => lr M w
def okD (d : D) (M : Mm) : Oc W := .ok (.d d) M
@[simp] theorem okD_eq (d : D) (M : Mm) : okD d M = .ok (.d d) M := rfl

section
variable {X : Cx} {K : PySem.W.Frag} {Z : Zt} {μ : List Addr} {H : Hp} {M : Mm} {e a b : Expr} {es : List Expr} {pos : Pos} {f fa fb : FE} {fs : FA}
theorem OpR.or {F : Value → Value → Sem Value} {r r' : R2} (h : OpR X F r) (h' : OpR X F r') : OpR X F (fun x y H Q => r x y H Q ∨ r' x y H Q) := by
  intro pins s σ H x y v u Q I rx ry q
  rcases q with q | q
  · exact h pins s σ H x y v u Q I rx ry q
  · exact h' pins s σ H x y v u Q I rx ry q
theorem lv_at {w : W} {v : V} {ds : List D} (hr : HR K μ H M) (r : Rw K μ H w v) (h : lv M w = some ds) : ∃ a vs, v = .ref a ∧ H a = some (.lst vs) ∧ Rps K μ H ds vs := by
  cases w with
  | ref i =>
    obtain ⟨a, q, rfl⟩ := r
    obtain ⟨a', vs, q1, q2, q3⟩ := hr.at h
    rw [q] at q1; cases q1
    exact ⟨a, vs, rfl, q2, q3⟩
  | d x =>
    cases x with
    | lst xs => simp only [lv, Option.some.injEq] at h; subst h; simp only [Rw, Rp] at r; obtain ⟨a, vs, e, q1, _, q2⟩ := r; exact ⟨a, vs, e, q1, q2⟩
    | _ => simp [lv] at h
theorem lr_at {w : W} {v : V} {ds : List D} (hr : HR K μ H M) (r : Rw K μ H w v) (h : lr M w = some ds) : ∃ a vs, v = .ref a ∧ SqL K H a vs ∧ Rps K μ H ds vs := by
  by_cases hf : ∃ xs, w = .d (.fz xs)
  · obtain ⟨xs, rfl⟩ := hf
    simp only [lr, Option.some.injEq] at h; subst h
    simp only [Rw, Rp] at r; obtain ⟨a, vs, e, q1, q2⟩ := r
    exact ⟨a, vs, e, q1.sq, q2⟩
  · have : lr M w = lv M w := by
      cases w with
      | ref i => rfl
      | d x => cases x <;> first | rfl | exact (hf ⟨_, rfl⟩).elim
    rw [this] at h
    obtain ⟨a, vs, e, q1, q2⟩ := lv_at hr r h
    exact ⟨a, vs, e, SqL.of q1, q2⟩
theorem sv_at {w : W} {v : V} {ds : List D} (hr : HR K μ H M) (r : Rw K μ H w v) (h : sv M w = some ds) : ∃ a vs, v = .ref a ∧ (SqL K H a vs ∨ SqT K H a vs) ∧ Rps K μ H ds vs := by
  by_cases hf : ∃ xs, w = .d (.tup xs)
  · obtain ⟨xs, rfl⟩ := hf
    simp only [sv, Option.some.injEq] at h; subst h
    simp only [Rw, Rp] at r; obtain ⟨a, vs, e, q1, q2⟩ := r
    exact ⟨a, vs, e, .inr (SqT.of q1), q2⟩
  · have : sv M w = lr M w := by
      cases w with
      | ref i => rfl
      | d x => cases x <;> first | rfl | exact (hf ⟨_, rfl⟩).elim
    rw [this] at h
    obtain ⟨a, vs, e, q1, q2⟩ := lr_at hr r h
    exact ⟨a, vs, e, .inl q1, q2⟩
/-- new data: a tuple, a list nobody changes -/
theorem new_tup {Q : VK} {ds : List D} {vs : List V} (hr : HR K μ H M) (r : Rps K μ H ds vs) (p : Pst K Z μ H (okD (.tup ds) M) (Wk K Q)) : ∀ q, H q = none → Q (.ref q) (upd H q (.tup vs)) := fun q hq =>
  p μ _ (ext_lay hr hq) (hr.lay hq) (.ref q) (by simp only [Rw, Rp]; exact ⟨q, vs, rfl, upd_same, Rps.ext hr.lsts (ext_lay hr hq) _ _ r⟩)
theorem new_lst {Q : VK} {ds : List D} {vs : List V} (hr : HR K μ H M) (r : Rps K μ H ds vs) (p : Pst K Z μ H (okD (.lst ds) M) (Wk K Q)) : ∀ q, H q = none → Q (.ref q) (upd H q (.lst vs)) := fun q hq =>
  p μ _ (ext_lay hr hq) (hr.lay hq) (.ref q) (by simp only [Rw, Rp]; exact ⟨q, vs, rfl, upd_same, hr.out hq, Rps.ext hr.lsts (ext_lay hr hq) _ _ r⟩)
theorem new_ref {Q : VK} {ds : List D} {vs : List V} (hr : HR K μ H M) (r : Rps K μ H ds vs) (p : Pst K Z μ H (.ok (.ref M.length) (M ++ [ds])) (Wk K Q)) : ∀ q, H q = none → Q (.ref q) (upd H q (.lst vs)) := fun q hq =>
  p _ _ (ext_new hr hq) (hr.new hq r) (.ref q) ⟨q, by rw [← hr.len]; simp, rfl⟩
/-- t + u, any tuples -/
def rCatA (K : PySem.W.Frag) : R2 := fun x y H Q => ∃ a b xs ys, x = .ref a ∧ y = .ref b ∧ SqT K H a xs ∧ SqT K H b ys ∧ xs.length + ys.length ≤ sizeLine ∧
  (xs = [] → Q (.ref b) H) ∧ (ys = [] → Q (.ref a) H) ∧ (∀ p, H p = none → Q (.ref p) (upd H p (.tup (xs ++ ys))))
theorem op_catA : OpR X (binaryOp .Add) (rCatA X.K) := by
  intro pins s σ H x y v u Q I rx ry h
  obtain ⟨a, b, xs, ys, rfl, rfl, ha, hb, hz, q0, q1, q2⟩ := h
  by_cases hx : xs = []
  · subst hx
    cases rx
    cases ry
    obtain ⟨its, r1, p1, _⟩ := I.tuple ha
    obtain ⟨its2, r2, p2, _⟩ := I.tuple hb
    have hv : its = [] := r1.nil_iff.mpr rfl
    subst hv
    obtain ⟨⟨cls, dd, data, sl⟩, ho, hc, n, hd⟩ := id p1
    obtain ⟨⟨cls2, dd2, data2, sl2⟩, ho2, hc2, n2, hd2⟩ := id p2
    simp only at hc hd hc2 hd2
    subst hc hd hc2 hd2
    exact concat_meets ⟨_, ho, rfl⟩ ⟨_, ho2, rfl⟩ noFill_tuple_add seq_tuple_add PySem.F.slot_tuple_add PySem.F.entry_tuple_add (PySem.F.args_tuple_add_2 _ _)
      (tuple_addW0 a b _ its2.toArray n n2 dd dd2 sl sl2 (by simp)) ⟨ho, ho2, ⟨.ref b, H, I, rfl, q0 rfl⟩⟩
  · exact op_catT pins s σ H _ _ v u Q I rx ry ⟨a, b, xs, ys, rfl, rfl, ha, hb, hx, hz, q1, fun _ => q2⟩

def pAdd (x y : W) (M : Mm) : Oc W := match x, y with
  | .d (.int i), .d (.int j) => .ok (.d (.int (i + j))) M
  | .d (.tup xs), .d (.tup ys) => if xs.length + ys.length ≤ 16777216 then .ok (.d (.tup (xs ++ ys))) M else .bad
  | .d (.str i), .d (.str j) => if i.length + j.length ≤ 16777216 then .ok (.d (.str (i ++ j))) M else .bad
  | x, y => match lv M x, lv M y with
    | some xs, some ys => if xs.length + ys.length ≤ 16777216 then .ok (.d (.lst (xs ++ ys))) M else .bad
    | _, _ => .bad
theorem pAdd_lists {x y : W} {v u : V} {Q : VK} (hr : HR K μ H M) (rx : Rw K μ H x v) (ry : Rw K μ H y u) (p : Pst K Z μ H (match lv M x, lv M y with
    | some xs, some ys => if xs.length + ys.length ≤ 16777216 then .ok (.d (.lst (xs ++ ys))) M else .bad
    | _, _ => .bad) (Wk K Q)) : rCat v u H Q := by
  cases q1 : lv M x with
  | none => rw [q1] at p; exact p.elim
  | some xs =>
    cases q2 : lv M y with
    | none => rw [q1, q2] at p; exact p.elim
    | some ys =>
      rw [q1, q2] at p
      simp only at p
      split at p
      · rename_i hz
        obtain ⟨a, vs, rfl, h1, r1⟩ := lv_at hr rx q1
        obtain ⟨b, us, rfl, h2, r2⟩ := lv_at hr ry q2
        exact ⟨a, b, vs, us, rfl, rfl, h1, h2, by rw [← r1.length, ← r2.length, sizeLine_eq]; exact hz, new_lst hr (r1.append r2) p⟩
      · exact p.elim
theorem opAdd : OpG X K Z (binaryOp .Add) pAdd := fun hk => by
  refine ⟨_, OpR.or (OpR.or op_add (hk ▸ op_catA)) (OpR.or op_cat op_add_str), ?_⟩
  intro μ H M x y v u Q hr rx ry p
  have gen := fun p => pAdd_lists (Q := Q) (K := K) (Z := Z) hr rx ry p
  cases x with
  | ref i => exact .inr (.inl (gen p))
  | d x =>
    cases y with
    | ref j => exact .inr (.inl (gen (by cases x <;> exact p)))
    | d y =>
      cases x <;> cases y <;> first
        | exact .inr (.inl (gen p))
        | skip
      · simp only [Rw, Rp] at rx ry; exact .inl (.inl ⟨_, _, rx, ry, p μ H .refl hr _ (by simp [Rw, Rp])⟩)
      · simp only [Rw, Rp] at rx ry
        simp only [pAdd] at p
        split at p
        · rename_i hz
          exact .inr (.inr ⟨_, _, rx, ry, by rw [sizeLine_eq]; exact hz, p μ H .refl hr _ (by simp [Rw, Rp])⟩)
        · exact p.elim
      · rename_i xs ys
        have rx' := rx
        have ry' := ry
        simp only [Rw, Rp] at rx ry
        obtain ⟨a, vs, rfl, h1, r1⟩ := rx
        obtain ⟨b, us, rfl, h2, r2⟩ := ry
        simp only [pAdd] at p
        split at p
        · rename_i hz
          refine .inl (.inr ⟨a, b, vs, us, rfl, rfl, SqT.of h1, SqT.of h2, by rw [← r1.length, ← r2.length, sizeLine_eq]; exact hz, fun e => ?_, fun e => ?_, new_tup hr (r1.append r2) p⟩)
          · subst e
            have : xs = [] := by have := r1.length; simpa using this
            subst this
            exact p μ H .refl hr _ (by simpa using ry')
          · subst e
            have : ys = [] := by have := r2.length; simpa using this
            subst this
            exact p μ H .refl hr _ (by simpa using rx')
        · exact p.elim

/-- operations on ints -/
def pI (c : Int → Int → Bool) (g : Int → Int → D) (x y : W) (M : Mm) : Oc W := match x, y with
  | .d (.int i), .d (.int j) => if c i j = true then .ok (.d (g i j)) M else .bad
  | _, _ => .bad
theorem opI {F : Value → Value → Sem Value} {C : Int → Int → Prop} {c : Int → Int → Bool} {g : Int → Int → D} {gv : Int → Int → V} (h : OpR X F (rI C gv)) (hc : ∀ i j, c i j = true → C i j) (hg : ∀ K μ H i j, Rp K μ H (g i j) (gv i j)) :
    OpG X K Z F (pI c g) := fun hk => ⟨_, h, by
  intro μ H M x y v u Q hr rx ry p
  cases x with
  | ref i => exact p.elim
  | d x => cases y with
    | ref j => cases x <;> exact p.elim
    | d y => cases x <;> cases y <;> first
      | exact p.elim
      | (simp only [Rw, Rp] at rx ry
         simp only [pI] at p
         split at p
         · rename_i hz; exact ⟨_, _, rx, ry, hc _ _ hz, p μ H .refl hr _ (hg K μ H _ _)⟩
         · exact p.elim)⟩
theorem opI0 {F : Value → Value → Sem Value} {g : Int → Int → D} {gv : Int → Int → V} (h : OpR X F (rI0 gv)) (hg : ∀ K μ H i j, Rp K μ H (g i j) (gv i j)) : OpG X K Z F (pI (fun _ _ => true) g) := fun hk => ⟨_, h, by
  intro μ H M x y v u Q hr rx ry p
  cases x with
  | ref i => exact p.elim
  | d x => cases y with
    | ref j => cases x <;> exact p.elim
    | d y => cases x <;> cases y <;> first
      | exact p.elim
      | (simp only [Rw, Rp] at rx ry
         exact ⟨_, _, rx, ry, p μ H .refl hr _ (hg K μ H _ _)⟩)⟩
abbrev pSub := pI (fun _ _ => true) fun i j => .int (i - j)
abbrev pLt := pI (fun _ _ => true) fun i j => .bl (decide (i < j))
abbrev pLe := pI (fun _ _ => true) fun i j => .bl (decide (i ≤ j))
abbrev pGt := pI (fun _ _ => true) fun i j => .bl (decide (j < i))
abbrev pGe := pI (fun _ _ => true) fun i j => .bl (decide (j ≤ i))
abbrev pMod := pI (fun _ j => decide (0 < j)) fun i j => .int (i % j)
abbrev pDiv := pI (fun _ j => decide (0 < j ∧ j < 18446744073709551616)) fun i j => .int (i / j)
abbrev pPow := pI (fun i j => decide (0 ≤ j ∧ j ≤ 1000000 ∧ i.natAbs < 18446744073709551616)) fun i j => .int (i ^ j.toNat)
abbrev pShl := pI (fun i j => decide (0 ≤ j ∧ j ≤ 1000000 ∧ i.natAbs < 18446744073709551616)) fun i j => .int (i * 2 ^ j.toNat)
abbrev pShr := pI (fun i j => decide (0 ≤ j)) fun i j => .int (i / 2 ^ j.toNat)
abbrev pAnd := pI (fun _ _ => true) fun i j => .int (Builtin.bitAnd i j)
theorem opSub : OpG X K Z (binaryOp .Sub) pSub := opI0 op_sub fun _ _ _ _ _ => by simp [Rp]
theorem opLt : OpG X K Z (compareOp .Lt) pLt := opI0 op_lt fun _ _ _ _ _ => by simp [Rp]
theorem opGt : OpG X K Z (compareOp .Gt) pGt := opI0 op_gt fun _ _ _ _ _ => by simp [Rp]
theorem opGe : OpG X K Z (compareOp .GtE) pGe := opI0 op_ge fun _ _ _ _ _ => by simp [Rp]
theorem opMod : OpG X K Z (binaryOp .Mod) pMod := opI op_mod (fun _ _ h => of_decide_eq_true h) fun _ _ _ _ _ => by simp [Rp]
theorem opDiv : OpG X K Z (binaryOp .FloorDiv) pDiv := opI op_fdivW (fun _ _ h => by simp only [decide_eq_true_eq] at h; exact h) fun _ _ _ _ _ => by simp [Rp]
theorem opPow : OpG X K Z (binaryOp .Pow) pPow := opI op_pow (fun _ _ h => by simp only [decide_eq_true_eq] at h; exact h) fun _ _ _ _ _ => by simp [Rp]
/-- is None -/
def isN : W → Bool
  | .d .non => true
  | _ => false
def pIs (x y : W) (M : Mm) : Oc W := match y with
  | .d .non => .ok (.d (.bl (isN x))) M
  | _ => .bad
def pIsNot (x y : W) (M : Mm) : Oc W := match y with
  | .d .non => .ok (.d (.bl (!isN x))) M
  | _ => .bad
theorem isN_V {x : W} {v : V} (r : Rw K μ H x v) : decide (v = .non) = isN x := by
  cases x with
  | ref i => obtain ⟨a, _, rfl⟩ := r; simp [isN]
  | d x => cases x with
    | non => simp only [Rw, Rp] at r; subst r; simp [isN]
    | bl b => simp only [Rw, Rp] at r; subst r; simp [isN]
    | int b => simp only [Rw, Rp] at r; subst r; simp [isN]
    | str b => simp only [Rw, Rp] at r; subst r; simp [isN]
    | tup b => simp only [Rw, Rp] at r; obtain ⟨a, vs, rfl, _⟩ := r; simp [isN]
    | lst b => simp only [Rw, Rp] at r; obtain ⟨a, vs, rfl, _⟩ := r; simp [isN]
    | fz b => simp only [Rw, Rp] at r; obtain ⟨a, vs, rfl, _⟩ := r; simp [isN]
theorem opIs : OpG X K Z (compareOp .Is) pIs := fun hk => ⟨_, op_isN, by
  intro μ H M x y v u Q hr rx ry p
  cases y with
  | ref j => exact p.elim
  | d y => cases y with
    | non => simp only [Rw, Rp] at ry; exact ⟨ry, p μ H .refl hr _ (by simp only [Rw, Rp]; rw [isN_V rx])⟩
    | _ => exact p.elim⟩
end
end EV

set_option Elab.async false
set_option linter.all false
set_option maxRecDepth 100000
set_option maxHeartbeats 4000000
namespace EV
open PySem PySem.Spec PyProof.Rows L2

section
variable {X : Cx} {K : PySem.W.Frag} {Z : Zt} {μ : List Addr} {H : Hp} {M : Mm} {e a b : Expr} {es : List Expr} {pos : Pos} {f fa fb : FE} {fs : FA}

/-! ### == -/
mutual
def eqD : D → D → Bool
  | .non, .non => true
  | .bl a, .bl b => a == b
  | .bl a, .int b => (if a then 1 else 0) == b
  | .int a, .bl b => a == (if b then 1 else 0)
  | .int a, .int b => a == b
  | .str a, .str b => a == b
  | .tup xs, .tup ys => eqDs xs ys
  | .lst xs, .lst ys => eqDs xs ys
  | .lst xs, .fz ys => eqDs xs ys
  | .fz xs, .lst ys => eqDs xs ys
  | .fz xs, .fz ys => eqDs xs ys
  | _, _ => false
def eqDs : List D → List D → Bool
  | [], [] => true
  | x :: xs, y :: ys => eqD x y && eqDs xs ys
  | _, _ => false
end
mutual
/-- how deep data is -/
def dep : D → Nat
  | .tup xs => deps xs + 1
  | .lst xs => deps xs + 1
  | .fz xs => deps xs + 1
  | _ => 0
def deps : List D → Nat
  | [] => 0
  | x :: xs => max (dep x) (deps xs)
end
theorem eqDs_at : ∀ (xs ys : List D), eqDs xs ys = ((List.range (min xs.length ys.length)).all (fun i => eqD (xs.getD i .non) (ys.getD i .non)) && xs.length == ys.length)
  | [], [] => rfl
  | [], y :: ys => by simp [eqDs]
  | x :: xs, [] => by simp [eqDs]
  | x :: xs, y :: ys => by
    simp only [eqDs]
    rw [eqDs_at xs ys]
    have : min (x :: xs).length (y :: ys).length = min xs.length ys.length + 1 := by simp
    rw [this, List.range_succ_eq_map, List.all_cons]
    simp only [List.getD_cons_zero, List.all_map, Bool.and_assoc, List.length_cons]
    congr 1
    congr 1
    rw [Bool.eq_iff_iff]; simp
variable {pins : List (Addr × Obj)} {σ : L2.St} {s : Shared}
theorem rps_val {i : Nat} {ds : List D} {vs : List V} {its : List Value} (r : Rps K μ H ds vs) (rv : Vals vs its) (h : i < its.toArray.size) : ∃ d v, ds[i]? = some d ∧ Rp K μ H d v ∧ RelV v its.toArray[i] := by
  have h1 : i < its.length := by simpa using h
  have h2 : i < vs.length := by rw [rv.length]; exact h1
  have h3 : i < ds.length := by rw [r.length]; exact h2
  obtain ⟨v, q1, q2⟩ := r.get (i := i) (d := ds[i]) (by simp [h3])
  obtain ⟨u, q3, q4⟩ := rv.get q1
  refine ⟨ds[i], v, by simp [h3], q2, ?_⟩
  rw [List.getElem?_eq_getElem h1] at q3
  cases q3
  simpa using q4
theorem getD_of {ds : List D} {i : Nat} {d : D} (h : ds[i]? = some d) : ds.getD i .non = d := by rw [List.getD_eq_getElem?_getD, h]; rfl
abbrev Eqs (K : PySem.W.Frag) (μ : List Addr) (H : Hp) (s : Shared) (A : Around) (xs : List D) : Prop :=
  ∀ (j : Nat) (d : D), xs[j]? = some d → ∀ (d2 : D) (v1 v2 : V) (u1 u2 : Value), Rp K μ H d v1 → Rp K μ H d2 v2 → RelV v1 u1 → RelV v2 u2 → SeqAt.EqAt A s u1 u2 (eqD d d2)
theorem items_eq {A : Around} {xs ys : List D} {vs us : List V} {its its2 : List Value} (r1 : Rps K μ H xs vs) (r2 : Rps K μ H ys us) (q1 : Vals vs its) (q2 : Vals us its2) (ih : Eqs K μ H s A xs) :
    ∀ j (h1 : j < its.toArray.size) (h2 : j < its2.toArray.size), SeqAt.EqAt A s its.toArray[j] its2.toArray[j] ((fun i => eqD (xs.getD i .non) (ys.getD i .non)) j) := by
  intro j h1 h2
  obtain ⟨d, v, e1, e2, e3⟩ := rps_val r1 q1 h1
  obtain ⟨d', v', e1', e2', e3'⟩ := rps_val r2 q2 h2
  simp only [getD_of e1, getD_of e1']
  exact ih j d e1 d' v v' _ _ e2 e2' e3 e3'
theorem sizes_eq {xs ys : List D} {vs us : List V} {its its2 : List Value} (r1 : Rps K μ H xs vs) (r2 : Rps K μ H ys us) (q1 : Vals vs its) (q2 : Vals us its2) : its.toArray.size = xs.length ∧ its2.toArray.size = ys.length := by
  simp [r1.length, r2.length, q1.length, q2.length]
theorem rc_tup {A : Around} {xs ys : List D} {vs us : List V} {a b : Addr} (I : Inv X pins σ H s) (h1 : SqT X.K H a vs) (h2 : SqT X.K H b us) (r1 : Rps K μ H xs vs) (r2 : Rps K μ H ys us) (hu : A.units < cLine) (ih : Eqs K μ H s A.in1 xs) :
    SeqAt.RcAt A s (.ref a) (.ref b) (eqDs xs ys) := by
  obtain ⟨its, q1, p1, _⟩ := I.tuple h1
  obtain ⟨its2, q2, p2, _⟩ := I.tuple h2
  have := SeqAt.RcAt.tuples p1 p2 hu (items_eq r1 r2 q1 q2 ih)
  obtain ⟨e1, e2⟩ := sizes_eq r1 r2 q1 q2
  rw [e1, e2] at this
  rw [eqDs_at]; exact this
theorem rcne_tup {A : Around} {xs ys : List D} {vs us : List V} {a b : Addr} (I : Inv X pins σ H s) (h1 : SqT X.K H a vs) (h2 : SqT X.K H b us) (r1 : Rps K μ H xs vs) (r2 : Rps K μ H ys us) (hu : A.units < cLine) (ih : Eqs K μ H s A.in1 xs) :
    SeqAt.RcNeAt A s (.ref a) (.ref b) (!eqDs xs ys) := by
  obtain ⟨its, q1, p1, _⟩ := I.tuple h1
  obtain ⟨its2, q2, p2, _⟩ := I.tuple h2
  have := SeqAt.RcNeAt.tuples p1 p2 hu (items_eq r1 r2 q1 q2 ih)
  obtain ⟨e1, e2⟩ := sizes_eq r1 r2 q1 q2
  rw [e1, e2] at this
  rw [eqDs_at]; exact this
theorem eqDs_len {xs ys : List D} (h : xs.length ≠ ys.length) : eqDs xs ys = false := by
  rw [eqDs_at]
  have : (xs.length == ys.length) = false := by simpa using h
  rw [this, Bool.and_false]
theorem eqDs_same {xs ys : List D} (h : xs.length = ys.length) : eqDs xs ys = (List.range xs.length).all (fun i => eqD (xs.getD i .non) (ys.getD i .non)) := by
  rw [eqDs_at, ← h]; simp
theorem rc_lst {A : Around} {xs ys : List D} {vs us : List V} {a b : Addr} (I : Inv X pins σ H s) (h1 : SqL X.K H a vs) (h2 : SqL X.K H b us) (r1 : Rps K μ H xs vs) (r2 : Rps K μ H ys us) (hu : A.units < cLine) (ih : Eqs K μ H s A.in1 xs) :
    SeqAt.RcAt A s (.ref a) (.ref b) (eqDs xs ys) := by
  obtain ⟨its, q1, p1, _⟩ := I.list h1
  obtain ⟨its2, q2, p2, _⟩ := I.list h2
  obtain ⟨e1, e2⟩ := sizes_eq r1 r2 q1 q2
  by_cases hl : xs.length = ys.length
  · have := SeqAt.RcAt.lists p1.isList p2.isList (by rw [e1, e2, hl]) hu (items_eq r1 r2 q1 q2 ih)
    rw [e1] at this
    rw [eqDs_same hl]; exact this
  · rw [eqDs_len hl]
    exact SeqAt.RcAt.lists_lengths p1.isList p2.isList (by rw [e1, e2]; simpa using hl) hu
theorem rcne_lst {A : Around} {xs ys : List D} {vs us : List V} {a b : Addr} (I : Inv X pins σ H s) (h1 : SqL X.K H a vs) (h2 : SqL X.K H b us) (r1 : Rps K μ H xs vs) (r2 : Rps K μ H ys us) (hu : A.units < cLine) (ih : Eqs K μ H s A.in1 xs) :
    SeqAt.RcNeAt A s (.ref a) (.ref b) (!eqDs xs ys) := by
  obtain ⟨its, q1, p1, _⟩ := I.list h1
  obtain ⟨its2, q2, p2, _⟩ := I.list h2
  obtain ⟨e1, e2⟩ := sizes_eq r1 r2 q1 q2
  by_cases hl : xs.length = ys.length
  · have := SeqAt.RcNeAt.lists p1.isList p2.isList (by rw [e1, e2, hl]) hu (items_eq r1 r2 q1 q2 ih)
    rw [e1] at this
    rw [eqDs_same hl]; exact this
  · rw [eqDs_len hl]
    exact SeqAt.RcNeAt.lists_lengths p1.isList p2.isList (by rw [e1, e2]; simpa using hl) hu
/-- data that is flat as a value -/
def fv : D → Option V
  | .non => some .non
  | .bl b => some (.bl b)
  | .int i => some (.int i)
  | .str x => some (.str x)
  | _ => none
theorem fv_rp {d : D} {v u : V} (h : fv d = some u) (r : Rp K μ H d v) : v = u ∧ flatV u = true := by
  cases d <;> simp only [fv, Option.some.injEq, reduceCtorEq] at h <;> (simp only [Rp] at r; subst h; exact ⟨r, rfl⟩)
theorem fv_eq {d e : D} {u w : V} (h : fv d = some u) (h' : fv e = some w) : eqV u w = eqD d e := by
  cases d <;> simp only [fv, Option.some.injEq, reduceCtorEq] at h <;> (cases e <;> simp only [fv, Option.some.injEq, reduceCtorEq] at h' <;> (subst h; subst h'; simp [eqV, eqD]))
theorem fv_of {d : D} {v : V} (r : Rp K μ H d v) (h : flatV v = true) : fv d = some v := by
  cases d with
  | non => simp only [Rp] at r; subst r; rfl
  | bl b => simp only [Rp] at r; subst r; rfl
  | int b => simp only [Rp] at r; subst r; rfl
  | str b => simp only [Rp] at r; subst r; rfl
  | tup b => simp only [Rp] at r; obtain ⟨a, vs, rfl, _⟩ := r; cases h
  | lst b => simp only [Rp] at r; obtain ⟨a, vs, rfl, _⟩ := r; cases h
  | fz b => simp only [Rp] at r; obtain ⟨a, vs, rfl, _⟩ := r; cases h
theorem eqV_self {v : V} (h : flatV v = true) : eqV v v = true := by cases v <;> first | (cases h; done) | rfl | (simp [eqV]; done)
theorem flat_inj {d d' : D} {v : V} {u : V} (hf : fv d = some u) (h : Rp K μ H d v) (h' : Rp K μ H d' v) : eqD d d' = true := by
  obtain ⟨rfl, fl⟩ := fv_rp hf h
  rw [← fv_eq hf (fv_of h' fl)]
  exact eqV_self fl
/-- what stands at an address -/
inductive At (K : PySem.W.Frag) (μ : List Addr) (H : Hp) : D → Addr → List D → Bool → Prop where
  | tup {a vs ds} : SqT K H a vs → Rps K μ H ds vs → At K μ H (.tup ds) a ds true
  | lst {a vs ds} : SqL K H a vs → Rps K μ H ds vs → At K μ H (.lst ds) a ds false
  | fz {a vs ds} : SqL K H a vs → Rps K μ H ds vs → At K μ H (.fz ds) a ds false
theorem no_both {a : Addr} {vs us : List V} (I : Inv X pins σ H s) (h1 : SqT X.K H a vs) (h2 : SqL X.K H a us) : False := by
  obtain ⟨its, q1, p1, _⟩ := I.tuple h1
  obtain ⟨its2, q2, p2, _⟩ := I.list h2
  exact SeqAt.ne_of_list_tuple p2.isList p1 rfl
mutual
theorem rp_inj (I : Inv X pins σ H s) (hk : X.K = K) : ∀ (d d' : D) (v : V), Rp K μ H d v → Rp K μ H d' v → eqD d d' = true
  | .non, d', v, h, h' => flat_inj rfl h h'
  | .bl x, d', v, h, h' => flat_inj rfl h h'
  | .int x, d', v, h, h' => flat_inj rfl h h'
  | .str x, d', v, h, h' => flat_inj rfl h h'
  | .tup xs, d', v, h, h' => by
    simp only [Rp] at h
    obtain ⟨a, vs, rfl, h1, r1⟩ := h
    cases d' with
    | tup ys =>
      simp only [Rp] at h'
      obtain ⟨b, us, e, h2, r2⟩ := h'
      cases e
      cases I.tuple_inj (SqT.of (K := X.K) h1) (SqT.of h2)
      simp only [eqD]
      exact rps_inj I hk xs ys vs r1 r2
    | lst ys => simp only [Rp] at h'; obtain ⟨b, us, e, h2, _, r2⟩ := h'; cases e; exact (no_both I (SqT.of h1) (SqL.of h2)).elim
    | fz ys => simp only [Rp] at h'; obtain ⟨b, us, e, h2, r2⟩ := h'; cases e; exact (no_both I (SqT.of h1) (hk ▸ h2.sq)).elim
    | _ => simp only [Rp] at h'; cases h'
  | .lst xs, d', v, h, h' => by
    simp only [Rp] at h
    obtain ⟨a, vs, rfl, h1, _, r1⟩ := h
    cases d' with
    | tup ys => simp only [Rp] at h'; obtain ⟨b, us, e, h2, r2⟩ := h'; cases e; exact (no_both I (SqT.of h2) (SqL.of h1)).elim
    | lst ys =>
      simp only [Rp] at h'; obtain ⟨b, us, e, h2, _, r2⟩ := h'; cases e
      cases I.list_inj (SqL.of h1) (SqL.of h2)
      simp only [eqD]
      exact rps_inj I hk xs ys vs r1 r2
    | fz ys =>
      simp only [Rp] at h'; obtain ⟨b, us, e, h2, r2⟩ := h'; cases e
      cases I.list_inj (SqL.of h1) (hk ▸ h2.sq)
      simp only [eqD]
      exact rps_inj I hk xs ys vs r1 r2
    | _ => simp only [Rp] at h'; cases h'
  | .fz xs, d', v, h, h' => by
    simp only [Rp] at h
    obtain ⟨a, vs, rfl, h1, r1⟩ := h
    cases d' with
    | tup ys => simp only [Rp] at h'; obtain ⟨b, us, e, h2, r2⟩ := h'; cases e; exact (no_both I (SqT.of h2) (hk ▸ h1.sq)).elim
    | lst ys =>
      simp only [Rp] at h'; obtain ⟨b, us, e, h2, _, r2⟩ := h'; cases e
      cases I.list_inj (hk ▸ h1.sq) (SqL.of h2)
      simp only [eqD]
      exact rps_inj I hk xs ys vs r1 r2
    | fz ys =>
      simp only [Rp] at h'; obtain ⟨b, us, e, h2, r2⟩ := h'; cases e
      cases I.list_inj (hk ▸ h1.sq) (hk ▸ h2.sq)
      simp only [eqD]
      exact rps_inj I hk xs ys vs r1 r2
    | _ => simp only [Rp] at h'; cases h'
theorem rps_inj (I : Inv X pins σ H s) (hk : X.K = K) : ∀ (xs ys : List D) (vs : List V), Rps K μ H xs vs → Rps K μ H ys vs → eqDs xs ys = true
  | [], ys, vs, h, h' => by simp only [Rps] at h; subst h; cases ys with | nil => rfl | cons y ys => simp only [Rps] at h'; obtain ⟨_, _, e, _⟩ := h'; cases e
  | x :: xs, ys, vs, h, h' => by
    simp only [Rps] at h
    obtain ⟨v, r, rfl, e2, e3⟩ := h
    cases ys with
    | nil => simp only [Rps] at h'; cases h'
    | cons y ys =>
      simp only [Rps] at h'
      obtain ⟨v', r', e, e2', e3'⟩ := h'
      cases e
      simp only [eqDs, rp_inj I hk x y v e2 e2', rps_inj I hk xs ys r e3 e3', Bool.and_self]
end
theorem fv_none {d : D} {v : V} (h : fv d = none) (r : Rp K μ H d v) : ∃ a ds k, v = .ref a ∧ At K μ H d a ds k := by
  cases d with
  | tup xs => simp only [Rp] at r; obtain ⟨a, vs, e, q1, q2⟩ := r; exact ⟨a, xs, true, e, .tup (SqT.of q1) q2⟩
  | lst xs => simp only [Rp] at r; obtain ⟨a, vs, e, q1, _, q2⟩ := r; exact ⟨a, xs, false, e, .lst (SqL.of q1) q2⟩
  | fz xs => simp only [Rp] at r; obtain ⟨a, vs, e, q1, q2⟩ := r; exact ⟨a, xs, false, e, .fz q1.sq q2⟩
  | _ => simp [fv] at h
theorem rc_flat {A : Around} {d d2 : D} {v1 v2 w w2 : V} {u1 u2 : Value} (n1 : fv d = some w) (n2 : fv d2 = some w2) (h1 : Rp K μ H d v1) (h2 : Rp K μ H d2 v2) (q1 : RelV v1 u1) (q2 : RelV v2 u2) :
    (SeqAt.RcAt A s u1 u2 (eqD d d2) ∧ SeqAt.RcNeAt A s u1 u2 (!eqD d d2)) := by
  cases d with
  | non =>
    simp only [Rp] at h1; subst h1; cases q1
    cases d2 with
    | non => simp only [Rp] at h2; subst h2; cases q2; simp only [eqD]; exact ⟨SeqAt.RcAt.none_none, SeqAt.RcNeAt.none_none⟩
    | bl y => simp only [Rp] at h2; subst h2; cases q2; simp only [eqD]; exact ⟨SeqAt.RcAt.none_bool y, SeqAt.RcNeAt.none_bool y⟩
    | int y => simp only [Rp] at h2; subst h2; obtain ⟨t2, rfl⟩ := q2; simp only [eqD]; exact ⟨SeqAt.RcAt.none_int y t2, SeqAt.RcNeAt.none_int y t2⟩
    | str y => simp only [Rp] at h2; subst h2; obtain ⟨t2, rfl⟩ := q2; simp only [eqD]; exact ⟨SeqAt.RcAt.none_str y t2, SeqAt.RcNeAt.none_str y t2⟩
    | _ => simp [fv] at n2
  | bl x =>
    simp only [Rp] at h1; subst h1; cases q1
    cases d2 with
    | non => simp only [Rp] at h2; subst h2; cases q2; simp only [eqD]; exact ⟨SeqAt.RcAt.bool_none x, SeqAt.RcNeAt.bool_none x⟩
    | bl y => simp only [Rp] at h2; subst h2; cases q2; simp only [eqD]; exact ⟨SeqAt.RcAt.bool_bool x y, SeqAt.RcNeAt.bool_bool x y⟩
    | int y => simp only [Rp] at h2; subst h2; obtain ⟨t2, rfl⟩ := q2; simp only [eqD]; exact ⟨SeqAt.RcAt.bool_int x y t2, SeqAt.RcNeAt.bool_int x y t2⟩
    | str y => simp only [Rp] at h2; subst h2; obtain ⟨t2, rfl⟩ := q2; simp only [eqD]; exact ⟨SeqAt.RcAt.bool_str x y t2, SeqAt.RcNeAt.bool_str x y t2⟩
    | _ => simp [fv] at n2
  | int x =>
    simp only [Rp] at h1; subst h1; obtain ⟨t, rfl⟩ := q1
    cases d2 with
    | non => simp only [Rp] at h2; subst h2; cases q2; simp only [eqD]; exact ⟨SeqAt.RcAt.int_none x t, SeqAt.RcNeAt.int_none x t⟩
    | bl y => simp only [Rp] at h2; subst h2; cases q2; simp only [eqD]; exact ⟨SeqAt.RcAt.int_bool x t y, SeqAt.RcNeAt.int_bool x t y⟩
    | int y => simp only [Rp] at h2; subst h2; obtain ⟨t2, rfl⟩ := q2; simp only [eqD]; exact ⟨SeqAt.RcAt.int_int x t y t2, SeqAt.RcNeAt.int_int x t y t2⟩
    | str y => simp only [Rp] at h2; subst h2; obtain ⟨t2, rfl⟩ := q2; simp only [eqD]; exact ⟨SeqAt.RcAt.int_str x t y t2, SeqAt.RcNeAt.int_str x t y t2⟩
    | _ => simp [fv] at n2
  | str x =>
    simp only [Rp] at h1; subst h1; obtain ⟨t, rfl⟩ := q1
    cases d2 with
    | non => simp only [Rp] at h2; subst h2; cases q2; simp only [eqD]; exact ⟨SeqAt.RcAt.str_none x t, SeqAt.RcNeAt.str_none x t⟩
    | bl y => simp only [Rp] at h2; subst h2; cases q2; simp only [eqD]; exact ⟨SeqAt.RcAt.str_bool x t y, SeqAt.RcNeAt.str_bool x t y⟩
    | int y => simp only [Rp] at h2; subst h2; obtain ⟨t2, rfl⟩ := q2; simp only [eqD]; exact ⟨SeqAt.RcAt.str_int x t y t2, SeqAt.RcNeAt.str_int x t y t2⟩
    | str y => simp only [Rp] at h2; subst h2; obtain ⟨t2, rfl⟩ := q2; simp only [eqD]; exact ⟨SeqAt.RcAt.str_str x t y t2, SeqAt.RcNeAt.str_str x t y t2⟩
    | _ => simp [fv] at n2
  | _ => simp [fv] at n1
theorem tuple_flat {A : Around} {d2 : D} {a : Addr} {its : Array Value} {v2 w2 : V} {u2 : Value} (pl : s.heap.IsTuple a its) (hu : A.units < cLine) (n2 : fv d2 = some w2) (h2 : Rp K μ H d2 v2) (q2 : RelV v2 u2) :
    SeqAt.EqAt A s (.ref a) u2 false ∧ SeqAt.EqAt A s u2 (.ref a) false ∧ SeqAt.RcAt A s (.ref a) u2 false ∧ SeqAt.RcNeAt A s (.ref a) u2 true ∧ SeqAt.RcAt A s u2 (.ref a) false ∧ SeqAt.RcNeAt A s u2 (.ref a) true := by
  cases d2 with
  | non => simp only [Rp] at h2; subst h2; cases q2; exact ⟨SeqAt.EqAt.tuple_none pl hu, SeqAt.EqAt.none_tuple pl hu, SeqAt.RcAt.tuple_none pl hu, SeqAt.RcNeAt.tuple_none pl hu, SeqAt.RcAt.none_tuple pl hu, SeqAt.RcNeAt.none_tuple pl hu⟩
  | bl y => simp only [Rp] at h2; subst h2; cases q2; exact ⟨SeqAt.EqAt.tuple_bool y pl hu, SeqAt.EqAt.bool_tuple y pl hu, SeqAt.RcAt.tuple_bool y pl hu, SeqAt.RcNeAt.tuple_bool y pl hu, SeqAt.RcAt.bool_tuple y pl hu, SeqAt.RcNeAt.bool_tuple y pl hu⟩
  | int y => simp only [Rp] at h2; subst h2; obtain ⟨t2, rfl⟩ := q2; exact ⟨SeqAt.EqAt.tuple_int y t2 pl hu, SeqAt.EqAt.int_tuple y t2 pl hu, SeqAt.RcAt.tuple_int y t2 pl hu, SeqAt.RcNeAt.tuple_int y t2 pl hu, SeqAt.RcAt.int_tuple y t2 pl hu, SeqAt.RcNeAt.int_tuple y t2 pl hu⟩
  | str y => simp only [Rp] at h2; subst h2; obtain ⟨t2, rfl⟩ := q2; exact ⟨SeqAt.EqAt.tuple_str y t2 pl hu, SeqAt.EqAt.str_tuple y t2 pl hu, SeqAt.RcAt.tuple_str y t2 pl hu, SeqAt.RcNeAt.tuple_str y t2 pl hu, SeqAt.RcAt.str_tuple y t2 pl hu, SeqAt.RcNeAt.str_tuple y t2 pl hu⟩
  | _ => simp [fv] at n2
theorem list_flat {A : Around} {d2 : D} {a : Addr} {its : Array Value} {v2 w2 : V} {u2 : Value} (pl : s.heap.IsList a its) (hu : A.units < cLine) (n2 : fv d2 = some w2) (h2 : Rp K μ H d2 v2) (q2 : RelV v2 u2) :
    SeqAt.EqAt A s (.ref a) u2 false ∧ SeqAt.EqAt A s u2 (.ref a) false ∧ SeqAt.RcAt A s (.ref a) u2 false ∧ SeqAt.RcNeAt A s (.ref a) u2 true ∧ SeqAt.RcAt A s u2 (.ref a) false ∧ SeqAt.RcNeAt A s u2 (.ref a) true := by
  cases d2 with
  | non => simp only [Rp] at h2; subst h2; cases q2; exact ⟨SeqAt.EqAt.list_none pl hu, SeqAt.EqAt.none_list pl hu, SeqAt.RcAt.list_none pl hu, SeqAt.RcNeAt.list_none pl hu, SeqAt.RcAt.none_list pl hu, SeqAt.RcNeAt.none_list pl hu⟩
  | bl y => simp only [Rp] at h2; subst h2; cases q2; exact ⟨SeqAt.EqAt.list_bool y pl hu, SeqAt.EqAt.bool_list y pl hu, SeqAt.RcAt.list_bool y pl hu, SeqAt.RcNeAt.list_bool y pl hu, SeqAt.RcAt.bool_list y pl hu, SeqAt.RcNeAt.bool_list y pl hu⟩
  | int y => simp only [Rp] at h2; subst h2; obtain ⟨t2, rfl⟩ := q2; exact ⟨SeqAt.EqAt.list_int y t2 pl hu, SeqAt.EqAt.int_list y t2 pl hu, SeqAt.RcAt.list_int y t2 pl hu, SeqAt.RcNeAt.list_int y t2 pl hu, SeqAt.RcAt.int_list y t2 pl hu, SeqAt.RcNeAt.int_list y t2 pl hu⟩
  | str y => simp only [Rp] at h2; subst h2; obtain ⟨t2, rfl⟩ := q2; exact ⟨SeqAt.EqAt.list_str y t2 pl hu, SeqAt.EqAt.str_list y t2 pl hu, SeqAt.RcAt.list_str y t2 pl hu, SeqAt.RcNeAt.list_str y t2 pl hu, SeqAt.RcAt.str_list y t2 pl hu, SeqAt.RcNeAt.str_list y t2 pl hu⟩
  | _ => simp [fv] at n2
theorem at_flat {A : Around} {d d2 : D} {a : Addr} {xs : List D} {k : Bool} {v2 w2 : V} {u2 : Value} (I : Inv X pins σ H s) (hk : X.K = K) (hu : A.units < cLine) (h1 : At K μ H d a xs k) (n2 : fv d2 = some w2) (h2 : Rp K μ H d2 v2) (q2 : RelV v2 u2) :
    SeqAt.EqAt A s (.ref a) u2 false ∧ SeqAt.EqAt A s u2 (.ref a) false ∧ SeqAt.RcAt A s (.ref a) u2 false ∧ SeqAt.RcNeAt A s (.ref a) u2 true ∧ SeqAt.RcAt A s u2 (.ref a) false ∧ SeqAt.RcNeAt A s u2 (.ref a) true := by
  cases h1 with
  | tup h r => obtain ⟨its, r', pl, _⟩ := I.tuple (hk ▸ h); exact tuple_flat pl hu n2 h2 q2
  | lst h r => obtain ⟨its, r', pl, _⟩ := I.list (hk ▸ h); exact list_flat pl.isList hu n2 h2 q2
  | fz h r => obtain ⟨its, r', pl, _⟩ := I.list (hk ▸ h); exact list_flat pl.isList hu n2 h2 q2
theorem eq_at_flat {d d2 : D} {w : V} (n1 : fv d = none) (n2 : fv d2 = some w) : eqD d d2 = false ∧ eqD d2 d = false := by
  cases d <;> simp only [fv, reduceCtorEq] at n1 <;> (cases d2 <;> simp only [fv, reduceCtorEq] at n2 <;> exact ⟨rfl, rfl⟩)
theorem rc_at {A : Around} {d d2 : D} {a b : Addr} {xs ys : List D} {k k2 : Bool} (I : Inv X pins σ H s) (hk : X.K = K) (hu : A.units < cLine) (h1 : At K μ H d a xs k) (h2 : At K μ H d2 b ys k2) (ih : Eqs K μ H s A.in1 xs) :
    SeqAt.RcAt A s (.ref a) (.ref b) (eqD d d2) ∧ SeqAt.RcNeAt A s (.ref a) (.ref b) (!eqD d d2) := by
  cases h1 with
  | tup h r => cases h2 with
    | tup h' r' => exact ⟨rc_tup I (hk ▸ h) (hk ▸ h') r r' hu ih, rcne_tup I (hk ▸ h) (hk ▸ h') r r' hu ih⟩
    | lst h' r' =>
      obtain ⟨_, _, pl, _⟩ := I.tuple (hk ▸ h); obtain ⟨_, _, pl', _⟩ := I.list (hk ▸ h')
      exact ⟨.tuple_list pl pl'.isList hu, .tuple_list pl pl'.isList hu⟩
    | fz h' r' =>
      obtain ⟨_, _, pl, _⟩ := I.tuple (hk ▸ h); obtain ⟨_, _, pl', _⟩ := I.list (hk ▸ h')
      exact ⟨.tuple_list pl pl'.isList hu, .tuple_list pl pl'.isList hu⟩
  | lst h r => cases h2 with
    | tup h' r' =>
      obtain ⟨_, _, pl, _⟩ := I.list (hk ▸ h); obtain ⟨_, _, pl', _⟩ := I.tuple (hk ▸ h')
      exact ⟨.list_tuple pl.isList pl' hu, .list_tuple pl.isList pl' hu⟩
    | lst h' r' => exact ⟨rc_lst I (hk ▸ h) (hk ▸ h') r r' hu ih, rcne_lst I (hk ▸ h) (hk ▸ h') r r' hu ih⟩
    | fz h' r' => exact ⟨rc_lst I (hk ▸ h) (hk ▸ h') r r' hu ih, rcne_lst I (hk ▸ h) (hk ▸ h') r r' hu ih⟩
  | fz h r => cases h2 with
    | tup h' r' =>
      obtain ⟨_, _, pl, _⟩ := I.list (hk ▸ h); obtain ⟨_, _, pl', _⟩ := I.tuple (hk ▸ h')
      exact ⟨.list_tuple pl.isList pl' hu, .list_tuple pl.isList pl' hu⟩
    | lst h' r' => exact ⟨rc_lst I (hk ▸ h) (hk ▸ h') r r' hu ih, rcne_lst I (hk ▸ h) (hk ▸ h') r r' hu ih⟩
    | fz h' r' => exact ⟨rc_lst I (hk ▸ h) (hk ▸ h') r r' hu ih, rcne_lst I (hk ▸ h) (hk ▸ h') r r' hu ih⟩
theorem eqAt_of {A : Around} {d d2 : D} {v1 v2 : V} {u1 u2 : Value} (I : Inv X pins σ H s) (hk : X.K = K) (hu : A.units < cLine) (h1 : Rp K μ H d v1) (h2 : Rp K μ H d2 v2) (q1 : RelV v1 u1) (q2 : RelV v2 u2)
    (ih : ∀ a xs k, At K μ H d a xs k → Eqs K μ H s A.in1 xs) : SeqAt.EqAt A s u1 u2 (eqD d d2) := by
  cases n1 : fv d with
  | some w =>
    cases n2 : fv d2 with
    | some w2 =>
      obtain ⟨rfl, f1⟩ := fv_rp n1 h1
      obtain ⟨rfl, f2⟩ := fv_rp n2 h2
      rw [← fv_eq n1 n2]
      exact eqAt_V q1 q2 f1 f2
    | none =>
      obtain ⟨a, ds, k, rfl, at2⟩ := fv_none n2 h2
      cases q2
      rw [(eq_at_flat n2 n1).2]
      exact (at_flat I hk hu at2 n1 h1 q1).2.1
  | none =>
    cases n2 : fv d2 with
    | some w2 =>
      obtain ⟨a, ds, k, rfl, at1⟩ := fv_none n1 h1
      cases q1
      rw [(eq_at_flat n1 n2).1]
      exact (at_flat I hk hu at1 n2 h2 q2).1
    | none =>
      obtain ⟨a, xs, k, rfl, at1⟩ := fv_none n1 h1
      obtain ⟨b, ys, k2, rfl, at2⟩ := fv_none n2 h2
      cases q1
      cases q2
      by_cases hab : a = b
      · subst hab
        rw [rp_inj I hk d d2 _ h1 h2]
        exact .same _
      · exact .of_refs hab (rc_at I hk hu at1 at2 (ih a xs k at1)).1
mutual
theorem eqAt_D (I : Inv X pins σ H s) (hk : X.K = K) : ∀ (d : D) (A : Around) (d2 : D) (v1 v2 : V) (u1 u2 : Value), A.units + dep d < cLine → Rp K μ H d v1 → Rp K μ H d2 v2 → RelV v1 u1 → RelV v2 u2 → SeqAt.EqAt A s u1 u2 (eqD d d2)
  | .non, A, d2, v1, v2, u1, u2, hu, h1, h2, q1, q2 => eqAt_of I hk (by omega) h1 h2 q1 q2 fun a xs k z => nomatch z
  | .bl x, A, d2, v1, v2, u1, u2, hu, h1, h2, q1, q2 => eqAt_of I hk (by omega) h1 h2 q1 q2 fun a xs k z => nomatch z
  | .int x, A, d2, v1, v2, u1, u2, hu, h1, h2, q1, q2 => eqAt_of I hk (by omega) h1 h2 q1 q2 fun a xs k z => nomatch z
  | .str x, A, d2, v1, v2, u1, u2, hu, h1, h2, q1, q2 => eqAt_of I hk (by omega) h1 h2 q1 q2 fun a xs k z => nomatch z
  | .tup xs, A, d2, v1, v2, u1, u2, hu, h1, h2, q1, q2 => eqAt_of I hk (by omega) h1 h2 q1 q2 fun a ys k z => by
    have e : xs = ys := by cases z; rfl
    subst e
    exact eqAt_Ds I hk xs A.in1 (by simp only [dep] at hu; show A.units + 1 + deps xs < cLine; omega)
  | .lst xs, A, d2, v1, v2, u1, u2, hu, h1, h2, q1, q2 => eqAt_of I hk (by omega) h1 h2 q1 q2 fun a ys k z => by
    have e : xs = ys := by cases z; rfl
    subst e
    exact eqAt_Ds I hk xs A.in1 (by simp only [dep] at hu; show A.units + 1 + deps xs < cLine; omega)
  | .fz xs, A, d2, v1, v2, u1, u2, hu, h1, h2, q1, q2 => eqAt_of I hk (by omega) h1 h2 q1 q2 fun a ys k z => by
    have e : xs = ys := by cases z; rfl
    subst e
    exact eqAt_Ds I hk xs A.in1 (by simp only [dep] at hu; show A.units + 1 + deps xs < cLine; omega)
theorem eqAt_Ds (I : Inv X pins σ H s) (hk : X.K = K) : ∀ (xs : List D) (A : Around), A.units + deps xs < cLine → Eqs K μ H s A xs
  | [], A, hu => fun j d h => by simp at h
  | x :: xs, A, hu => fun j d h => match j, h with
    | 0, h => fun d2 v1 v2 u1 u2 r1 r2 q1 q2 => by
      have e : d = x := by simpa using h.symm
      rw [e] at r1 ⊢
      exact eqAt_D I hk x A d2 v1 v2 u1 u2 (by simp only [deps] at hu; omega) r1 r2 q1 q2
    | j + 1, h => fun d2 v1 v2 u1 u2 r1 r2 q1 q2 => eqAt_Ds I hk xs A (by simp only [deps] at hu; omega) j d (by simpa using h) d2 v1 v2 u1 u2 r1 r2 q1 q2
end
/-- the data of a value -/
def wd (M : Mm) : W → Option D
  | .d x => some x
  | .ref i => (M[i]?).map D.lst
/-- the values of data, tracked lists too, as == takes them -/
def Rq (K : PySem.W.Frag) (μ : List Addr) (H : Hp) (d : D) (v : V) : Prop := Rp K μ H d v ∨ ∃ a ds vs, d = .lst ds ∧ v = .ref a ∧ H a = some (.lst vs) ∧ Rps K μ H ds vs
theorem wd_rq {w : W} {v : V} {d : D} (hr : HR K μ H M) (r : Rw K μ H w v) (h : wd M w = some d) : Rq K μ H d v := by
  cases w with
  | d x => simp only [wd, Option.some.injEq] at h; subst h; exact .inl r
  | ref i =>
    simp only [wd, Option.map_eq_some_iff] at h
    obtain ⟨ds, h1, rfl⟩ := h
    obtain ⟨a, q, rfl⟩ := r
    obtain ⟨a', vs, q1, q2, q3⟩ := hr.at h1
    rw [q] at q1; cases q1
    exact .inr ⟨a, ds, vs, rfl, rfl, q2, q3⟩
theorem rq_none {d : D} {v : V} (n : fv d = none) (h : Rq K μ H d v) : ∃ a ds k, v = .ref a ∧ At K μ H d a ds k := by
  rcases h with h | ⟨a, ds, vs, rfl, rfl, q1, q2⟩
  · exact fv_none n h
  · exact ⟨a, ds, false, rfl, .lst (SqL.of q1) q2⟩
theorem rq_rp {d : D} {v w : V} (n : fv d = some w) (h : Rq K μ H d v) : Rp K μ H d v := by
  rcases h with h | ⟨a, ds, vs, rfl, rfl, q1, q2⟩
  · exact h
  · cases n
theorem at_dep {d : D} {a : Addr} {xs : List D} {k : Bool} (h : At K μ H d a xs k) : dep d = deps xs + 1 := by cases h <;> rfl
def pEq (x y : W) (M : Mm) : Oc W := match wd M x, wd M y with
  | some d, some e => if dep d ≤ 100 then .ok (.d (.bl (eqD d e))) M else .bad
  | _, _ => .bad
def pNe (x y : W) (M : Mm) : Oc W := match wd M x, wd M y with
  | some d, some e => if dep d ≤ 100 then .ok (.d (.bl (!eqD d e))) M else .bad
  | _, _ => .bad
def rEqD (K : PySem.W.Frag) (neg : Bool) : R2 := fun v u H Q => ∃ μ d e, Rq K μ H d v ∧ Rq K μ H e u ∧ dep d ≤ 100 ∧ Q (.bl (if neg = true then !eqD d e else eqD d e)) H
theorem rc_D (I : Inv X pins σ H s) (hk : X.K = K) {A : Around} {d d2 : D} {v1 v2 : V} {u1 u2 : Value} (hu : A.units + dep d + 1 < cLine) (h1 : Rq K μ H d v1) (h2 : Rq K μ H d2 v2) (q1 : RelV v1 u1) (q2 : RelV v2 u2) :
    (SeqAt.RcAt A s u1 u2 (eqD d d2) ∧ SeqAt.RcNeAt A s u1 u2 (!eqD d d2)) := by
  have hu0 : A.units < cLine := by omega
  cases n1 : fv d with
  | some w =>
    have h1 := rq_rp n1 h1
    cases n2 : fv d2 with
    | some w2 => exact rc_flat n1 n2 h1 (rq_rp n2 h2) q1 q2
    | none =>
      obtain ⟨b, ys, k2, rfl, at2⟩ := rq_none n2 h2
      cases q2
      rw [(eq_at_flat n2 n1).2]
      obtain ⟨_, _, _, _, x, y⟩ := at_flat I hk hu0 at2 n1 h1 q1
      exact ⟨x, y⟩
  | none =>
    obtain ⟨a, xs, k, rfl, at1⟩ := rq_none n1 h1
    cases q1
    cases n2 : fv d2 with
    | some w2 =>
      rw [(eq_at_flat n1 n2).1]
      obtain ⟨_, _, x, y, _⟩ := at_flat I hk hu0 at1 n2 (rq_rp n2 h2) q2
      exact ⟨x, y⟩
    | none =>
      obtain ⟨b, ys, k2, rfl, at2⟩ := rq_none n2 h2
      cases q2
      have := at_dep at1
      exact rc_at I hk hu0 at1 at2 (eqAt_Ds I hk xs A.in1 (by show A.units + 1 + deps xs < cLine; omega))
theorem op_eqD (hu : X.A.units + 101 < cLine) : OpR X (compareOp .Eq) (rEqD X.K false) := by
  intro pins s σ H x y v u Q I rx ry h
  obtain ⟨μ, d, e, h1, h2, h3, q⟩ := h
  exact (rc_D I rfl (A := X.A) (by omega) h1 h2 rx ry).1 _ _ _ _ ⟨.bl _, H, I, rfl, q⟩
theorem op_neD (hu : X.A.units + 101 < cLine) : OpR X (compareOp .NotEq) (rEqD X.K true) := by
  intro pins s σ H x y v u Q I rx ry h
  obtain ⟨μ, d, e, h1, h2, h3, q⟩ := h
  exact (rc_D I rfl (A := X.A) (by omega) h1 h2 rx ry).2 _ _ _ _ ⟨.bl _, H, I, rfl, q⟩
theorem opEq (hu : X.A.units + 101 < cLine) : OpG X K Z (compareOp .Eq) pEq := fun hk => ⟨_, hk ▸ op_eqD hu, by
  intro μ H M x y v u Q hr rx ry p
  unfold pEq at p
  cases q1 : wd M x with
  | none => rw [q1] at p; exact p.elim
  | some d => cases q2 : wd M y with
    | none => rw [q1, q2] at p; exact p.elim
    | some e =>
      rw [q1, q2] at p
      simp only at p
      split at p
      · exact ⟨μ, d, e, wd_rq hr rx q1, wd_rq hr ry q2, by assumption, p μ H .refl hr _ (by simp [Rw, Rp])⟩
      · exact p.elim⟩
theorem opNe (hu : X.A.units + 101 < cLine) : OpG X K Z (compareOp .NotEq) pNe := fun hk => ⟨_, hk ▸ op_neD hu, by
  intro μ H M x y v u Q hr rx ry p
  unfold pNe at p
  cases q1 : wd M x with
  | none => rw [q1] at p; exact p.elim
  | some d => cases q2 : wd M y with
    | none => rw [q1, q2] at p; exact p.elim
    | some e =>
      rw [q1, q2] at p
      simp only at p
      split at p
      · exact ⟨μ, d, e, wd_rq hr rx q1, wd_rq hr ry q2, by assumption, p μ H .refl hr _ (by simp [Rw, Rp])⟩
      · exact p.elim⟩
end
end EV

set_option Elab.async false
set_option linter.all false
set_option maxRecDepth 100000
set_option maxHeartbeats 4000000
namespace EV
open PySem PySem.Spec PyProof.Rows L2

section
variable {X : Cx} {K : PySem.W.Frag} {Z : Zt} {μ : List Addr} {H : Hp} {M : Mm} {e a b o : Expr} {es : List Expr} {pos : Pos} {f fa fb fo : FE} {fs : FA}

/-! ### * -/
@[irreducible] def lid : Nat := 2 ^ 4096
theorem lid_bits {i : Int} (h : i.natAbs < lid) : Builtin.Int.intBits i ≤ 4096 := by unfold lid at h; exact intBits_le_iff.mpr h
def mulOk (i j : Int) : Bool := decide ((-18446744073709551616 < i ∧ i < 18446744073709551616) ∨ (-18446744073709551616 < j ∧ j < 18446744073709551616) ∨ (i.natAbs < lid ∧ j.natAbs < lid))
theorem op_mulW : OpR X (binaryOp .Mult) (rI (fun i j => CMul i j ∨ (i.natAbs < lid ∧ j.natAbs < lid)) fun i j => .int (i * j)) := L2.opI fun _ _ _ _ _ _ _ hc q => mul_int q (by
  rcases hc with hc | ⟨h1, h2⟩
  · exact hc.ok
  · exact mulOk_of_bits (lid_bits h1) (lid_bits h2) (by omega))
def pMul (x y : W) (M : Mm) : Oc W := match x, y with
  | .d (.int i), .d (.int j) => if mulOk i j = true then .ok (.d (.int (i * j))) M else .bad
  | x, .d (.int k) => match lv M x with
    | some xs => if xs.length * k.toNat ≤ 16777216 ∧ k < 9223372036854775808 ∧ -9223372036854775808 ≤ k then .ok (.d (.lst (List.replicate k.toNat xs).flatten)) M else .bad
    | none => .bad
  | _, _ => .bad
theorem pMul_rep {x : W} {v : V} {k : Int} {Q : VK} (hr : HR K μ H M) (rx : Rw K μ H x v) (p : Pst K Z μ H (match lv M x with
    | some xs => if xs.length * k.toNat ≤ 16777216 ∧ k < 9223372036854775808 ∧ -9223372036854775808 ≤ k then .ok (.d (.lst (List.replicate k.toNat xs).flatten)) M else .bad
    | none => .bad) (Wk K Q)) : rRep v (.int k) H Q := by
  cases q1 : lv M x with
  | none => rw [q1] at p; exact p.elim
  | some xs =>
    rw [q1] at p
    simp only at p
    split at p
    · rename_i hz
      obtain ⟨a, vs, rfl, h1, r1⟩ := lv_at hr rx q1
      exact ⟨a, k, vs, rfl, rfl, h1, hz.2.2, hz.2.1, by rw [← r1.length, sizeLine_eq]; exact hz.1, new_lst hr (r1.rep k.toNat) p⟩
    · exact p.elim
theorem opMul : OpG X K Z (binaryOp .Mult) pMul := fun hk => by
  refine ⟨_, OpR.or op_mulW op_rep, ?_⟩
  intro μ H M x y v u Q hr rx ry p
  cases y with
  | ref j => cases x with
    | ref i => exact p.elim
    | d x => cases x <;> exact p.elim
  | d y => cases y with
    | int k =>
      have ry' : u = .int k := by simpa only [Rw, Rp] using ry
      subst ry'
      cases x with
      | ref i => exact .inr (pMul_rep hr rx p)
      | d x => cases x with
        | int i =>
          simp only [pMul] at p
          simp only [Rw, Rp] at rx
          split at p
          · rename_i hz
            refine .inl ⟨i, k, rx, rfl, ?_, p μ H .refl hr _ (by simp [Rw, Rp])⟩
            simp only [mulOk, decide_eq_true_eq] at hz
            rcases hz with hz | hz | hz
            · exact .inl (.inl hz)
            · exact .inl (.inr hz)
            · exact .inr hz
          · exact p.elim
        | _ => exact .inr (pMul_rep hr rx p)
    | _ => cases x with
      | ref i => exact p.elim
      | d x => cases x <;> exact p.elim

/-! ### unary minus -/
def pNeg (x : W) (M : Mm) : Oc W := match x with
  | .d (.int i) => .ok (.d (.int (-i))) M
  | _ => .bad
/-- not, and, or as values -/
def pNot (x : W) (M : Mm) : Oc W := match x with
  | .d (.bl b) => .ok (.d (.bl (!b))) M
  | _ => .bad
theorem ev_not (ha : Ev X K Z a fa) : Ev X K Z (.UnaryOp .Not a pos) (e1 pNot fa) := by
  refine ⟨ha.k, cqE (pe_not ha.h) ?_⟩
  rintro σ H Q ⟨μ, M, L, hr, lr, p⟩
  refine ⟨μ, M, L, hr, lr, p.bind.imp fun μ1 H1 M1 x e1 hr1 _ p1 v rx => ?_⟩
  cases x with
  | ref i => exact p1.elim
  | d x => cases x with
    | bl i => simp only [Rw, Rp] at rx; exact ⟨i, rx, p1 μ1 H1 .refl hr1 _ (by simp [Rw, Rp])⟩
    | _ => exact p1.elim
def eAnd (f g : FE) : FE := fun L M => (f L M).bind fun x M1 => match x with
  | .d (.bl true) => g L M1
  | .d (.bl false) => .ok (.d (.bl false)) M1
  | _ => .bad
def eOr (f g : FE) : FE := fun L M => (f L M).bind fun x M1 => match x with
  | .d (.bl true) => .ok (.d (.bl true)) M1
  | .d (.bl false) => g L M1
  | _ => .bad
variable {rest : List Expr}
theorem ev_one {op} (ha : Ev X K Z a fa) : Ev X K Z (.BoolOp op [a] pos) fa := ⟨ha.k, pe_one ha.h⟩
theorem ev_and (ha : Ev X K Z a fa) (hb : Ev X K Z (.BoolOp .And (b :: rest) pos) fb) : Ev X K Z (.BoolOp .And (a :: b :: rest) pos) (eAnd fa fb) := by
  refine ⟨ha.k, cqE (pe_and ha.h hb.h) ?_⟩
  rintro σ H Q ⟨μ, M, L, hr, lr, p⟩
  refine ⟨μ, M, L, hr, lr, p.bind.imp fun μ1 H1 M1 x e1 hr1 _ p1 v rx => ?_⟩
  cases x with
  | ref i => exact p1.elim
  | d x => cases x with
    | bl i =>
      simp only [Rw, Rp] at rx
      refine ⟨i, rx, ?_⟩
      cases i with
      | true => exact ⟨μ1, M1, L, hr1, lr.ext hr.lsts e1, p1⟩
      | false => exact p1 μ1 H1 .refl hr1 _ (by simp [Rw, Rp])
    | _ => exact p1.elim
theorem ev_or (ha : Ev X K Z a fa) (hb : Ev X K Z (.BoolOp .Or (b :: rest) pos) fb) : Ev X K Z (.BoolOp .Or (a :: b :: rest) pos) (eOr fa fb) := by
  refine ⟨ha.k, cqE (pe_or ha.h hb.h) ?_⟩
  rintro σ H Q ⟨μ, M, L, hr, lr, p⟩
  refine ⟨μ, M, L, hr, lr, p.bind.imp fun μ1 H1 M1 x e1 hr1 _ p1 v rx => ?_⟩
  cases x with
  | ref i => exact p1.elim
  | d x => cases x with
    | bl i =>
      simp only [Rw, Rp] at rx
      refine ⟨i, rx, ?_⟩
      cases i with
      | true => exact p1 μ1 H1 .refl hr1 _ (by simp [Rw, Rp])
      | false => exact ⟨μ1, M1, L, hr1, lr.ext hr.lsts e1, p1⟩
    | _ => exact p1.elim
/-- a if c else b -/
def eIf (t : FT) (f g : FE) : FE := fun L M => (t L M).bind fun c M1 => if c = true then f L M1 else g L M1
theorem ev_if {c : Expr} {t : FT} (hc : Et X K Z c t) (ha : Ev X K Z a fa) (hb : Ev X K Z b fb) : Ev X K Z (.IfExp c a b pos) (eIf t fa fb) := by
  refine ⟨ha.k, cqE (pe_ifExp hc.h ha.h hb.h) ?_⟩
  rintro σ H Q ⟨μ, M, L, hr, lr, p⟩
  refine ⟨μ, M, L, hr, lr, p.bind.imp fun μ1 H1 M1 x e1 hr1 _ p1 => ?_⟩
  cases x with
  | true => exact ⟨μ1, M1, L, hr1, lr.ext hr.lsts e1, p1⟩
  | false => exact ⟨μ1, M1, L, hr1, lr.ext hr.lsts e1, p1⟩

/-! ### a[i] -/
def pIx (x y : W) (M : Mm) : Oc W := match y with
  | .d (.int i) => match x with
    | .d (.str z) => match atI z.cps.toList i with
      | some c => if z.length ≤ 16777216 then .ok (.d (.str ⟨#[c]⟩)) M else .bad
      | none => .bad
    | x => match sv M x with
      | some xs => match atI xs i with
        | some d => .ok (.d d) M
        | none => .bad
      | none => .bad
  | _ => .bad
theorem atI_rp {ds : List D} {vs : List V} {i : Int} {d : D} (r : Rps K μ H ds vs) (h : atI ds i = some d) : ∃ v, atI vs i = some v ∧ Rp K μ H d v := by
  unfold atI at h ⊢
  rw [r.length] at h
  cases q : ixN vs.length i with
  | none => rw [q] at h; cases h
  | some j => rw [q] at h; exact r.get h
theorem pIx_seq {x : W} {v : V} {i : Int} {Q : VK} (hr : HR K μ H M) (rx : Rw K μ H x v) (p : Pst K Z μ H (match sv M x with
      | some xs => match atI xs i with
        | some d => Oc.ok (.d d) M
        | none => .bad
      | none => .bad) (Wk K Q)) : rIx K v (.int i) H Q := by
  cases q1 : sv M x with
  | none => rw [q1] at p; exact p.elim
  | some xs =>
    rw [q1] at p
    cases q2 : atI xs i with
    | none => simp only [q2] at p; exact p.elim
    | some d =>
      simp only [q2] at p
      obtain ⟨a, vs, rfl, h1, r1⟩ := sv_at hr rx q1
      obtain ⟨v, h2, r2⟩ := atI_rp r1 q2
      have q := p μ H .refl hr v r2
      rcases h1 with h1 | h1
      · exact .inl ⟨a, vs, i, v, rfl, rfl, h1, h2, q⟩
      · exact .inr (.inl ⟨a, vs, i, v, rfl, rfl, h1, h2, q⟩)
theorem op2_ix : Op2 K Z (rIx K) pIx := by
  intro μ H M x y v u Q hr rx ry p
  cases y with
  | ref j => exact p.elim
  | d y => cases y with
    | int i =>
      have : u = .int i := by simpa only [Rw, Rp] using ry
      subst this
      cases x with
      | ref j => exact pIx_seq hr rx p
      | d x => cases x with
        | str z =>
          simp only [Rw, Rp] at rx
          simp only [pIx] at p
          cases q : atI z.cps.toList i with
          | none => simp only [q] at p; exact p.elim
          | some c =>
            simp only [q] at p
            split at p
            · exact .inr (.inr ⟨z, i, c, rx, rfl, by rw [sizeLine_eq]; assumption, q, p μ H .refl hr _ (by simp [Rw, Rp])⟩)
            · exact p.elim
        | _ => exact pIx_seq hr rx p
    | _ => exact p.elim
theorem ev_ix (ha : Ev X K Z a fa) (hb : Ev X K Z b fb) (hs : PlainIx b := by intro _ _; rfl) : Ev X K Z (.Subscript a b pos) (e2 pIx fa fb) := by
  have h := pe_ix (pos := pos) (ix_seq (X := X)) ha.h hb.h hs
  rw [ha.k] at h
  exact ⟨ha.k, cqE h (lift2 op2_ix)⟩

/-! ### argument lists -/
def aNil : FA := fun _ M => .ok [] M
def aCons (f : FE) (g : FA) : FA := fun L M => (f L M).bind fun w M1 => (g L M1).bind fun ws M2 => .ok (w :: ws) M2
theorem ea_nil (hk : X.K = K := by rfl) : Ea X K Z [] aNil := ⟨hk, cqA pa_nil fun σ H Q ⟨μ, M, L, hr, lr, p⟩ => p μ H .refl hr [] rfl⟩
theorem ea_cons (ha : Ev X K Z e fa) (hr : Ea X K Z es fs) (hs : starEach (e :: es) X.env = (false, eval e X.env) :: starEach es X.env := by rfl) : Ea X K Z (e :: es) (aCons fa fs) := by
  refine ⟨ha.k, cqA (pa_cons ha.h hr.h hs) ?_⟩
  rintro σ H Q ⟨μ, M, L, hr, lr, p⟩
  refine ⟨μ, M, L, hr, lr, p.bind.imp fun μ1 H1 M1 x e1 hr1 _ p1 v rx => ?_⟩
  refine ⟨μ1, M1, L, hr1, lr.ext hr.lsts e1, p1.bind.imp fun μ2 H2 M2 y e2 hr2 _ p2 us ry => ?_⟩
  exact p2 μ2 H2 .refl hr2 (v :: us) ⟨v, us, rfl, rx.ext hr1.lsts e2, ry⟩

/-! ### displays -/
def allD : List W → Option (List D)
  | [] => some []
  | .d x :: ws => (allD ws).map (x :: ·)
  | .ref _ :: _ => none
theorem allD_rps : ∀ {ws : List W} {vs : List V} {ds : List D}, Rws K μ H ws vs → allD ws = some ds → Rps K μ H ds vs
  | [], _, _, h, q => by cases h; simp only [allD, Option.some.injEq] at q; subst q; exact .nil
  | .d x :: ws, _, _, ⟨v, r, e1, e2, e3⟩, q => by
    simp only [allD, Option.map_eq_some_iff] at q
    obtain ⟨ds, q1, rfl⟩ := q
    subst e1
    exact .cons e2 (allD_rps e3 q1)
  | .ref i :: ws, _, _, _, q => by simp [allD] at q
def mkT (ws : List W) (M : Mm) : Oc W := match allD ws with
  | some ds => if ds.length ≤ 16777216 then okD (.tup ds) M else .bad
  | none => .bad
def mkL (ws : List W) (M : Mm) : Oc W := match allD ws with
  | some ds => if ds.length ≤ 16777216 then okD (.lst ds) M else .bad
  | none => .bad
def mkR (ws : List W) (M : Mm) : Oc W := match allD ws with
  | some ds => if ds.length ≤ 16777216 then .ok (.ref M.length) (M ++ [ds]) else .bad
  | none => .bad
def eA (g : List W → Mm → Oc W) (fs : FA) : FE := fun L M => (fs L M).bind g
theorem ev_tup {x1} (h : Ea X K Z es fs) : Ev X K Z (.Tuple es x1 pos) (eA mkT fs) := by
  refine ⟨h.k, cqE (pe_tup h.h) ?_⟩
  rintro σ H Q ⟨μ, M, L, hr, lr, p⟩
  refine ⟨μ, M, L, hr, lr, p.bind.imp fun μ1 H1 M1 ws e1 hr1 _ p1 vs rx => ?_⟩
  unfold mkT at p1
  cases q : allD ws with
  | none => rw [q] at p1; exact p1.elim
  | some ds =>
    rw [q] at p1
    simp only at p1
    split at p1
    · have r := allD_rps rx q
      exact ⟨by rw [← r.length, sizeLine_eq]; assumption, new_tup hr1 r p1⟩
    · exact p1.elim
theorem ev_lst (h : Ea X K Z es fs) : Ev X K Z (.List es pos) (eA mkL fs) := by
  refine ⟨h.k, cqE (pe_lst h.h) ?_⟩
  rintro σ H Q ⟨μ, M, L, hr, lr, p⟩
  refine ⟨μ, M, L, hr, lr, p.bind.imp fun μ1 H1 M1 ws e1 hr1 _ p1 vs rx => ?_⟩
  unfold mkL at p1
  cases q : allD ws with
  | none => rw [q] at p1; exact p1.elim
  | some ds =>
    rw [q] at p1
    simp only at p1
    split at p1
    · have r := allD_rps rx q
      exact ⟨by rw [← r.length, sizeLine_eq]; assumption, new_lst hr1 r p1⟩
    · exact p1.elim
theorem ev_lstR (h : Ea X K Z es fs) : Ev X K Z (.List es pos) (eA mkR fs) := by
  refine ⟨h.k, cqE (pe_lst h.h) ?_⟩
  rintro σ H Q ⟨μ, M, L, hr, lr, p⟩
  refine ⟨μ, M, L, hr, lr, p.bind.imp fun μ1 H1 M1 ws e1 hr1 _ p1 vs rx => ?_⟩
  unfold mkR at p1
  cases q : allD ws with
  | none => rw [q] at p1; exact p1.elim
  | some ds =>
    rw [q] at p1
    simp only at p1
    split at p1
    · have r := allD_rps rx q
      exact ⟨by rw [← r.length, sizeLine_eq]; assumption, new_ref hr1 r p1⟩
    · exact p1.elim
/-- a list of many written ints -/
def eInts (ns : List Int) : FE := fun _ M => .ok (.d (.lst (ns.map D.int))) M
theorem ev_ints {ns : List Int} (h : IntsE es ns) (hn : ns.length ≤ 16777216 := by decide) (hk : X.K = K := by rfl) : Ev X K Z (.List es pos) (eInts ns) := by
  refine ⟨hk, cqE (pe_lst (pa_ints h)) ?_⟩
  rintro σ H Q ⟨μ, M, L, hr, lr, p⟩
  exact ⟨by rw [List.length_map, sizeLine_eq]; exact hn, new_lst hr Rps.ints p⟩

/-! ### calls -/
def Cl (K : PySem.W.Frag) (Z : Zt) (r : List V → Hp → VK → Prop) (g : List W → Mm → Oc W) : Prop :=
  ∀ (μ : List Addr) (H : Hp) (M : Mm) (ws : List W) (vs : List V) (Q : VK), HR K μ H M → Rws K μ H ws vs → Pst K Z μ H (g ws M) (Wk K Q) → r vs H Q
def ClG (X : Cx) (K : PySem.W.Frag) (Z : Zt) (f : Value) (g : List W → Mm → Oc W) : Prop := X.K = K → ∃ r, CallR X f r ∧ Cl K Z r g
theorem liftC {r : List V → Hp → VK → Prop} {g : List W → Mm → Oc W} (h : Cl K Z r g) : ∀ σ H Q, lift K Z (eA g fs) σ H Q → tCB r (liftA K Z fs) σ H Q := by
  rintro σ H Q ⟨μ, M, L, hr, lr, p⟩
  exact ⟨μ, M, L, hr, lr, p.bind.imp fun μ1 H1 M1 ws e1 hr1 _ p1 vs rx => h μ1 H1 M1 ws vs Q hr1 rx p1⟩
theorem ev_callB {x : Str} {p : Pos} {id : String} {g : List W → Mm → Oc W} (hc : ClG X K Z (.builtin id) g) (hg : Gl X x) (hm : X.mg x = none) (hv : bootBuiltins x = some (.builtin id)) (ha : Ea X K Z (e :: es) fs)
    (hn : x ≠ "__name__" := by decide) (hdb : (x == ("__debug__" : Str)) = false := by decide) (he : starEach (e :: es) X.env = (false, eval e X.env) :: starEach es X.env := by rfl)
    (hpl : (backTo pos (starEach es X.env)).any (·.1) = false := by rfl) : Ev X K Z (.Call (.Name x p) (e :: es) [] pos) (eA g fs) := by
  obtain ⟨r, h1, h2⟩ := hc ha.k
  exact ⟨ha.k, cqE (pe_callB h1 hg hm hv ha.h hn hdb he hpl) (liftC h2)⟩
theorem ev_callT {x : Str} {p : Pos} {T : String} {g : List W → Mm → Oc W} (hc : ClG X K Z (.type T) g) (hg : Gl X x) (hm : X.mg x = none) (hv : bootBuiltins x = some (.type T)) (ha : Ea X K Z (e :: es) fs)
    (hn : x ≠ "__name__" := by decide) (hdb : (x == ("__debug__" : Str)) = false := by decide) (he : starEach (e :: es) X.env = (false, eval e X.env) :: starEach es X.env := by rfl)
    (hpl : (backTo pos (starEach es X.env)).any (·.1) = false := by rfl) : Ev X K Z (.Call (.Name x p) (e :: es) [] pos) (eA g fs) := by
  obtain ⟨r, h1, h2⟩ := hc ha.k
  exact ⟨ha.k, cqE (pe_callTy h1 hg hm hv ha.h hn hdb he hpl) (liftC h2)⟩
def cLen (ws : List W) (M : Mm) : Oc W := match ws with
  | [.d (.str z)] => if z.length ≤ 16777216 then .ok (.d (.int z.length)) M else .bad
  | [w] => match sv M w with
    | some xs => .ok (.d (.int xs.length)) M
    | none => .bad
  | _ => .bad
theorem cLen_seq {w : W} {v : V} {Q : VK} (hr : HR K μ H M) (rx : Rw K μ H w v) (p : Pst K Z μ H (match sv M w with
    | some xs => Oc.ok (.d (.int xs.length)) M
    | none => .bad) (Wk K Q)) : ∃ p ys, [v] = [V.ref p] ∧ (SqL K H p ys ∨ SqT K H p ys) ∧ Q (.int ys.length) H := by
  cases q1 : sv M w with
  | none => rw [q1] at p; exact p.elim
  | some xs =>
    rw [q1] at p
    obtain ⟨a, vs, rfl, h1, r1⟩ := sv_at hr rx q1
    exact ⟨a, vs, rfl, h1, p μ H .refl hr _ (by simp [Rw, Rp, r1.length])⟩
theorem callLen : ClG X K Z (.builtin "len") cLen := fun hk => by
  refine ⟨_, CallR.or (hk ▸ call_len_seq) call_len_str, ?_⟩
  intro μ H M ws vs Q hr rx p
  match ws, rx, p with
  | [], _, p => exact p.elim
  | .ref i :: [], ⟨v, r, e1, e2, e3⟩, p => cases e3; subst e1; exact .inl (cLen_seq hr e2 p)
  | .d x :: [], ⟨v, r, e1, e2, e3⟩, p =>
    cases e3; subst e1
    cases x with
    | str z =>
      simp only [cLen] at p
      simp only [Rw, Rp] at e2
      subst e2
      split at p
      · exact .inr ⟨z, rfl, by rw [sizeLine_eq]; assumption, p μ H .refl hr _ (by simp [Rw, Rp])⟩
      · exact p.elim
    | _ => exact .inl (cLen_seq hr e2 p)
  | .ref i :: _ :: _, _, p => exact p.elim
  | .d x :: _ :: _, _, p => cases x <;> exact p.elim
def cInt (ws : List W) (M : Mm) : Oc W := match ws with
  | [.d (.int i)] => .ok (.d (.int i)) M
  | [.d (.bl k)] => .ok (.d (.int (if k = true then 1 else 0))) M
  | _ => .bad
theorem callInt : ClG X K Z (.type "int") cInt := fun hk => by
  refine ⟨_, call_int1, ?_⟩
  intro μ H M ws vs Q hr rx p
  match ws, rx, p with
  | [], _, p => exact p.elim
  | .ref i :: _, _, p => exact p.elim
  | .d x :: [], ⟨v, r, e1, e2, e3⟩, p =>
    cases e3; subst e1
    cases x with
    | int i => simp only [Rw, Rp] at e2; subst e2; exact .inl ⟨i, rfl, p μ H .refl hr _ (by simp [Rw, Rp])⟩
    | bl k => simp only [Rw, Rp] at e2; subst e2; exact .inr ⟨k, rfl, p μ H .refl hr _ (by simp [Rw, Rp])⟩
    | _ => exact p.elim
  | .d x :: _ :: _, _, p => cases x <;> exact p.elim
def cMax2 (ws : List W) (M : Mm) : Oc W := match ws with
  | [.d (.int i), .d (.int j)] => .ok (.d (.int (if j > i then j else i))) M
  | _ => .bad
def cMin2 (ws : List W) (M : Mm) : Oc W := match ws with
  | [.d (.int i), .d (.int j)] => .ok (.d (.int (if j < i then j else i))) M
  | _ => .bad
theorem callMin2 (hc : X.calm = true) : ClG X K Z (.builtin "min") cMin2 := fun hk => by
  refine ⟨_, call_min2 hc, ?_⟩
  intro μ H M ws vs Q hr rx p
  unfold cMin2 at p
  split at p
  · obtain ⟨v, r, e1, e2, v', r', e1', e2', e3⟩ := rx
    simp only [Rw, Rp] at e2 e2'
    cases e3; subst e1' e1 e2 e2'
    exact ⟨_, _, rfl, p μ H .refl hr _ (by simp [Rw, Rp])⟩
  · exact p.elim
def cAbs (ws : List W) (M : Mm) : Oc W := match ws with
  | [.d (.int i)] => .ok (.d (.int (if i < 0 then -i else i))) M
  | _ => .bad
/-- list(x), tuple(x) -/
def cList (ws : List W) (M : Mm) : Oc W := match ws with
  | [w] => match sv M w with
    | some xs => okD (.lst xs) M
    | none => .bad
  | _ => .bad
def cListR (ws : List W) (M : Mm) : Oc W := match ws with
  | [w] => match sv M w with
    | some xs => .ok (.ref M.length) (M ++ [xs])
    | none => .bad
  | _ => .bad
def cTup (ws : List W) (M : Mm) : Oc W := match ws with
  | [w] => match sv M w with
    | some xs => okD (.tup xs) M
    | none => .bad
  | _ => .bad
theorem one_seq {g : List D → Oc W} {ws : List W} {vs : List V} {Q : List Addr → Hp → Mm → W → Prop} (hr : HR K μ H M) (rx : Rws K μ H ws vs) (p : Pst K Z μ H (match ws with
  | [w] => match sv M w with
    | some xs => g xs
    | none => .bad
  | _ => .bad) Q) : ∃ w a us xs, ws = [w] ∧ vs = [.ref a] ∧ sv M w = some xs ∧ Rw K μ H w (.ref a) ∧ (SqL K H a us ∨ SqT K H a us) ∧ Rps K μ H xs us ∧ Pst K Z μ H (g xs) Q := by
  match ws, rx, p with
  | [], _, p => exact p.elim
  | [w], ⟨v, r, e1, e2, e3⟩, p =>
    cases e3; subst e1
    simp only at p
    cases q : sv M w with
    | none => rw [q] at p; exact p.elim
    | some xs =>
      rw [q] at p
      obtain ⟨a, us, rfl, h1, r1⟩ := sv_at hr e2 q
      exact ⟨w, a, us, xs, rfl, rfl, q, e2, h1, r1, p⟩
  | _ :: _ :: _, _, p => exact p.elim
theorem callTup : ClG X K Z (.type "tuple") cTup := fun hk => by
  refine ⟨_, hk ▸ call_tuple_of, ?_⟩
  intro μ H M ws vs Q hr rx p
  obtain ⟨w, a, us, xs, rfl, rfl, q, e2, h1, r1, p⟩ := one_seq hr rx p
  by_cases hw : ∃ ys, w = .d (.tup ys)
  · obtain ⟨ys, rfl⟩ := hw
    simp only [sv, Option.some.injEq] at q
    subst q
    have e2' := e2
    simp only [Rw, Rp] at e2
    obtain ⟨a', vs', ea, h1', r1'⟩ := e2
    cases ea
    exact ⟨a, vs', rfl, .inr ⟨SqT.of h1', p μ H .refl hr _ e2'⟩⟩
  · have hl : lr M w = some xs := by
      cases w with
      | ref i => exact q
      | d x => cases x <;> first | exact q | exact (hw ⟨_, rfl⟩).elim
    obtain ⟨a', vs', ea, h1', r1'⟩ := lr_at hr e2 hl
    cases ea
    exact ⟨a, vs', rfl, .inl ⟨h1', new_tup hr r1' p⟩⟩
end
end EV

set_option Elab.async false
set_option linter.all false
set_option maxRecDepth 100000
set_option maxHeartbeats 4000000
namespace EV
open PySem PySem.Spec PyProof.Rows L2

section
variable {X : Cx} {K : PySem.W.Frag} {Z : Zt} {μ : List Addr} {H : Hp} {M : Mm} {e a b o : Expr} {es : List Expr} {pos : Pos} {f fa fb fo : FE} {fs : FA}

/-! ### statements -/
variable {st : Stmt} {rest : List Stmt} {F G : FS}
def sNil : FS := fun L M => .ok (.nx L) M
def sSeq (F G : FS) : FS := fun L M => (F L M).bind fun o M1 => match o with
  | .nx L1 => G L1 M1
  | .bk L1 => .ok (.bk L1) M1
  | .ct L1 => .ok (.ct L1) M1
  | .rt w => .ok (.rt w) M1
theorem ess_nil (hk : X.K = K := by rfl) : Ess X K Z [] sNil := ⟨hk, cqSs pss_nil fun E σ H ⟨μ, M, L, hr, lr, p⟩ => p μ H .refl hr σ lr⟩
theorem ess_cons (h1 : Es X K Z st F) (h2 : Ess X K Z rest G) : Ess X K Z (st :: rest) (sSeq F G) := by
  refine ⟨h1.k, cqSs (pss_cons h1.h h2.h) ?_⟩
  rintro E σ H ⟨μ, M, L, hr, lr, p⟩
  refine ⟨μ, M, L, hr, lr, p.bind.imp fun μ1 H1 M1 o e1 hr1 _ p1 => ?_⟩
  cases o with
  | nx L1 => exact fun σ' lr' => ⟨μ1, M1, L1, hr1, lr', p1⟩
  | bk L1 => exact p1 μ1 H1 .refl hr1
  | ct L1 => exact p1 μ1 H1 .refl hr1
  | rt w => exact p1 μ1 H1 .refl hr1
theorem ess_one (h1 : Es X K Z st F) : Ess X K Z [st] F := ⟨h1.k, pss_one h1.h⟩
def sBk : FS := fun L M => .ok (.bk L) M
def sCt : FS := fun L M => .ok (.ct L) M
def sEx (f : FE) : FS := fun L M => (f L M).bind fun _ M1 => .ok (.nx L) M1
theorem es_expr (h : Ev X K Z e f) (hs : swapsWith e none pos.line X.env = pure false := by rfl) : Es X K Z (.Expr e pos) (sEx f) := by
  refine ⟨h.k, cqS (ps_expr h.h hs) ?_⟩
  rintro E σ H ⟨μ, M, L, hr, lr, p⟩
  exact ⟨μ, M, L, hr, lr, p.bind.imp fun μ1 H1 M1 x e1 hr1 _ p1 v rx => p1 μ1 H1 .refl hr1 σ (lr.ext hr.lsts e1)⟩
def sRt (f : FE) : FS := fun L M => (f L M).bind fun w M1 => .ok (.rt w) M1
theorem es_ret (h : Ev X K Z e f) : Es X K Z (.Return (some e) pos) (sRt f) := by
  refine ⟨h.k, cqS (ps_ret h.h) ?_⟩
  rintro E σ H ⟨μ, M, L, hr, lr, p⟩
  exact ⟨μ, M, L, hr, lr, p.bind.imp fun μ1 H1 M1 x e1 hr1 _ p1 v rx => p1 μ1 H1 .refl hr1 v rx⟩
def sIf (t : FT) (F G : FS) : FS := fun L M => (t L M).bind fun b M1 => if b = true then F L M1 else G L M1
theorem es_if {c : Expr} {p q : List Stmt} {t : FT} (hc : Et X K Z c t) (ha : Ess X K Z p F) (hb : Ess X K Z q G) : Es X K Z (.If c p q pos) (sIf t F G) := by
  refine ⟨hc.k, cqS (ps_if hc.h ha.h hb.h) ?_⟩
  rintro E σ H ⟨μ, M, L, hr, lr, p⟩
  refine ⟨μ, M, L, hr, lr, p.bind.imp fun μ1 H1 M1 x e1 hr1 _ p1 => ?_⟩
  cases x with
  | true => exact ⟨μ1, M1, L, hr1, lr.ext hr.lsts e1, p1⟩
  | false => exact ⟨μ1, M1, L, hr1, lr.ext hr.lsts e1, p1⟩

/-! ### targets -/
def gN (i : Nat) : FG := fun w L M => .ok (L.set i (some w)) M
theorem LR.set {L : Lc} {σ : St} {i : Nat} {w : W} {v : V} (h : LR K μ H L σ) (r : Rw K μ H w v) : LR K μ H (L.set i (some w)) (σ.set i (some v)) where
  len := by simp [h.len]
  ent := fun j u q => by
    by_cases hj : i = j
    · subst hj
      have hl : i < L.length := by
        by_cases hl : i < L.length
        · exact hl
        · rw [List.set_eq_of_length_le (by omega)] at q
          rw [List.getElem?_eq_none (by omega)] at q; cases q
      rw [List.getElem?_set_self hl] at q
      cases q
      exact ⟨v, by rw [List.getElem?_set_self (by rw [← h.len]; exact hl)], r⟩
    · rw [List.getElem?_set_ne hj] at q
      obtain ⟨x, q1, q2⟩ := h.ent j u q
      exact ⟨x, by rw [List.getElem?_set_ne hj]; exact q1, q2⟩
theorem eg_name {i : Nat} {x : Str} (hN : X.N.Nodup) (hi : X.N[i]? = some x := by rfl) (hx : Loc X.env.scope x := by first | exact Or.inl rfl | exact Or.inr rfl) (hk : X.K = K := by rfl) (hf : X.fn x = true ∨ X.env.scope.names.lookup x = some .local := by first | exact .inl rfl | exact .inr rfl | assumption) :
    Eg X K Z (.Name x pos) (gN i) := ⟨hk, cqG (pg_name hN hi hx hf) fun v σ H Q ⟨μ, M, L, w, hr, lr, rx, p⟩ => p μ H .refl hr _ (lr.set rx)⟩
def gsNil : FGs := fun ds L M => match ds with
  | [] => .ok L M
  | _ => .bad
def gsCons (g : FG) (gs : FGs) : FGs := fun ds L M => match ds with
  | d :: r => (g (.d d) L M).bind fun L1 M1 => gs r L1 M1
  | [] => .bad
theorem egs_nil (hk : X.K = K := by rfl) : Egs X K Z [] gsNil := ⟨hk, cqGs pgs_nil fun vs σ H Q ⟨μ, M, L, ds, hr, lr, rx, p⟩ => by
  cases ds with
  | nil => simp only [Rps] at rx; exact ⟨rx, p μ H .refl hr σ lr⟩
  | cons d r => exact p.elim⟩
theorem egs_cons {g : FG} {gs : FGs} (h1 : Eg X K Z e g) (h2 : Egs X K Z es gs) (hs : (assignEach (e :: es) X.env).map (·.2) = assign e X.env :: (assignEach es X.env).map (·.2) := by rfl) : Egs X K Z (e :: es) (gsCons g gs) :=
  ⟨h1.k, cqGs (pgs_cons h1.h h2.h hs) fun vs σ H Q ⟨μ, M, L, ds, hr, lr, rx, p⟩ => by
    cases ds with
    | nil => exact p.elim
    | cons d r =>
      simp only [Rps] at rx
      obtain ⟨v, vr, e1, rd, rr⟩ := rx
      refine ⟨v, vr, e1, μ, M, L, .d d, hr, lr, rd, p.bind.imp fun μ1 H1 M1 L1 e1 hr1 _ p1 σ1 lr1 => ?_⟩
      exact ⟨μ1, M1, L1, r, hr1, lr1, Rps.ext hr.lsts e1 _ _ rr, p1⟩⟩
def gT (n : Nat) (gs : FGs) : FG := fun w L M => match w with
  | .d (.tup xs) => if xs.length = n then gs xs L M else .bad
  | _ => .bad
theorem eg_tup {k n : Nat} {gs : FGs} (hc : X.calm = true) (h : Egs X K Z es gs) (hn : (assignEach es X.env).length = n := by rfl) (hst : (assignEach es X.env).findIdx? (·.1) = none := by rfl) : Eg X K Z (.Tuple es k pos) (gT n gs) := by
  have h' := pg_tup (k := k) (pos := pos) hc h.h hn hst
  rw [h.k] at h'
  refine ⟨h.k, cqG h' fun v σ H Q ⟨μ, M, L, w, hr, lr, rx, p⟩ => ?_⟩
  cases w with
  | ref i => exact p.elim
  | d x => cases x with
    | tup xs =>
      simp only [gT] at p
      split at p
      · simp only [Rw, Rp] at rx
        obtain ⟨a, vs, e1, q1, r1⟩ := rx
        exact ⟨a, vs, e1, SqT.of q1, by rw [← r1.length]; assumption, μ, M, L, xs, hr, lr, r1, p⟩
      · exact p.elim
    | _ => exact p.elim
/-- o[i] = .. for a list that may be changed -/
def gS (fo fi : FE) : FG := fun w L M => (fo L M).bind fun o M1 => (fi L M1).bind fun i M2 => match o, i, w with
  | .ref k, .d (.int j), .d x => match M2[k]? with
    | some xs => match ixN xs.length j with
      | some t => .ok L (M2.set k (xs.set t x))
      | none => .bad
    | none => .bad
  | _, _, _ => .bad
theorem eg_sub {i : Expr} {fi : FE} (ho : Ev X K Z o fo) (hi : Ev X K Z i fi) (ha : ∀ v, assign (.Subscript o i pos) X.env v = (do
      let ov ← holding [v] (eval o X.env)
      let iv ← holding [v, ov] (eval i X.env)
      standAt pos
      holding [v, ov, iv] (setItem ov iv v)
      release [v, ov, iv] []) := by intro _; rfl) : Eg X K Z (.Subscript o i pos) (gS fo fi) := by
  refine ⟨ho.k, cqG (pg_sub ho.h hi.h set_list ha) fun v σ H Q ⟨μ, M, L, w, hr, lr, rx, p⟩ => ?_⟩
  refine ⟨μ, M, L, hr, lr, p.bind.imp fun μ1 H1 M1 x e1 hr1 _ p1 vo ro => ?_⟩
  refine ⟨μ1, M1, L, hr1, lr.ext hr.lsts e1, p1.bind.imp fun μ2 H2 M2 y e2 hr2 _ p2 vi ri => ?_⟩
  cases x with
  | d x => exact p2.elim
  | ref k => cases y with
    | ref j => exact p2.elim
    | d y => cases y with
      | int j => cases w with
        | ref q => exact p2.elim
        | d z =>
          simp only at p2
          cases q1 : M2[k]? with
          | none => simp only [q1] at p2; exact p2.elim
          | some xs =>
            simp only [q1] at p2
            cases q2 : ixN xs.length j with
            | none => simp only [q2] at p2; exact p2.elim
            | some t =>
              simp only [q2] at p2
              have ro := ro.ext hr1.lsts e2
              obtain ⟨a, qa, rfl⟩ := ro
              obtain ⟨a', vs, qa', h1, r1⟩ := hr2.at q1
              rw [qa] at qa'; cases qa'
              simp only [Rw, Rp] at ri
              subst ri
              have rz := Rw.ext hr1.lsts e2 (Rw.ext hr.lsts e1 rx)
              refine ⟨a, vs, j, t, rfl, rfl, h1, by rw [← r1.length]; exact q2, ?_⟩
              exact p2 μ2 _ (ext_set qa) (hr2.set qa (Rps.set rz t r1)) σ ((lr.ext hr.lsts (e1.trans e2)).ext hr2.lsts (ext_set qa))
      | _ => exact p2.elim
def sAs (f : FE) (g : FG) : FS := fun L M => (f L M).bind fun w M1 => (g w L M1).bind fun L1 M2 => .ok (.nx L1) M2
theorem es_asg {tg : Expr} {g : FG} (he : Ev X K Z e f) (hg : Eg X K Z tg g) (hs : swapsWithSole [tg] e pos.line X.env = pure false := by rfl) (hw : swappedStores [tg] e X.env = pure none := by rfl)
    (h1 : (assignEach [tg] X.env).map (·.2) = [assign tg X.env] := by rfl) : Es X K Z (.Assign [tg] e pos) (sAs f g) := by
  refine ⟨he.k, cqS (ps_asg he.h hg.h hs hw h1) ?_⟩
  rintro E σ H ⟨μ, M, L, hr, lr, p⟩
  refine ⟨μ, M, L, hr, lr, p.bind.imp fun μ1 H1 M1 x e1 hr1 _ p1 v rx => ?_⟩
  exact ⟨μ1, M1, L, x, hr1, lr.ext hr.lsts e1, rx, p1.bind.imp fun μ2 H2 M2 L2 e2 hr2 _ p2 σ2 lr2 => p2 μ2 H2 .refl hr2 σ2 lr2⟩
theorem es_set {i : Nat} {x : Str} {pos' : Pos} (hN : X.N.Nodup) (he : Ev X K Z e f) (hi : X.N[i]? = some x := by rfl) (hx : Loc X.env.scope x := by first | exact Or.inl rfl | exact Or.inr rfl) (hs : swapsWith e (some (.Name x pos')) pos.line X.env = pure false := by rfl)
    (hf : X.fn x = true ∨ X.env.scope.names.lookup x = some .local := by first | exact .inl rfl | exact .inr rfl | assumption) : Es X K Z (.Assign [.Name x pos'] e pos) (sAs f (gN i)) := by
  refine ⟨he.k, cqS (ps_set hN hi hx he.h hs hf) ?_⟩
  rintro E σ H ⟨μ, M, L, hr, lr, p⟩
  refine ⟨μ, M, L, hr, lr, p.bind.imp fun μ1 H1 M1 x e1 hr1 _ p1 v rx => ?_⟩
  exact p1 μ1 H1 .refl hr1 _ (LR.set (lr.ext hr.lsts e1) rx)
/-- a, b = x, y -/
def sPar (i j : Nat) (fs : FA) : FS := fun L M => (fs L M).bind fun ws M1 => match ws with
  | [v, w] => .ok (.nx ((L.set i (some v)).set j (some w))) M1
  | _ => .bad
end
end EV

set_option Elab.async false
set_option linter.all false
set_option maxRecDepth 100000
set_option maxHeartbeats 4000000
namespace EV
open PySem PySem.Spec PyProof.Rows L2

section
variable {X : Cx} {K : PySem.W.Frag} {Z : Zt} {μ : List Addr} {H : Hp} {M : Mm} {e a b o : Expr} {es : List Expr} {pos : Pos} {f fa fb fo : FE} {fs : FA} {st : Stmt} {rest : List Stmt} {F G : FS}
theorem es_par {i j : Nat} {x y : Str} {px py pt : Pos} {kt k2 pt2} (hc : X.calm = true) (hN : X.N.Nodup) (ha : Ea X K Z [a, b] fs) (hi : X.N[i]? = some x := by rfl) (hj : X.N[j]? = some y := by rfl) (hij : i ≠ j := by decide)
    (hx : X.env.scope.names.lookup x = some .local := by rfl) (hy : X.env.scope.names.lookup y = some .local := by rfl)
    (hw : swappedStores [.Tuple [.Name x px, .Name y py] kt pt] (.Tuple [a, b] k2 pt2) X.env = pure (some [x, y]) := by rfl)
    (hs : swapsWithSole [.Tuple [.Name x px, .Name y py] kt pt] (.Tuple [a, b] k2 pt2) pos.line X.env = pure false := by rfl) :
    Es X K Z (.Assign [.Tuple [.Name x px, .Name y py] kt pt] (.Tuple [a, b] k2 pt2) pos) (sPar i j fs) := by
  refine ⟨ha.k, cqS (ps_par hc hN hi hj hij hx hy ha.h hw hs) ?_⟩
  rintro E σ H ⟨μ, M, L, hr, lr, p⟩
  refine ⟨μ, M, L, hr, lr, p.bind.imp fun μ1 H1 M1 ws e1 hr1 _ p1 vs rx => ?_⟩
  match ws, rx, p1 with
  | [], _, p1 => exact p1.elim
  | [_], _, p1 => exact p1.elim
  | [v, w], ⟨v1, r, q1, q2, v2, r', q1', q2', q3⟩, p1 =>
    cases q3; subst q1' q1
    exact ⟨v1, v2, rfl, p1 μ1 H1 .refl hr1 _ (LR.set (LR.set (lr.ext hr.lsts e1) q2) q2')⟩
  | _ :: _ :: _ :: _, _, p1 => exact p1.elim
/-- x op= e, of ints -/
def sAug (g : W → W → Mm → Oc W) (i : Nat) (f : FE) : FS := fun L M => (eV i L M).bind fun x _ => (f L M).bind fun y M1 => (g x y M1).bind fun z M2 => .ok (.nx (L.set i (some z))) M2
/-! ### methods of lists -/
def pAppend (x y : W) (M : Mm) : Oc W := match x, y with
  | .ref k, .d d => match M[k]? with
    | some xs => if xs.length < 16777216 then .ok (.d .non) (M.set k (xs ++ [d])) else .bad
    | none => .bad
  | _, _ => .bad
theorem ref_ty {k : Nat} {v : V} (hr : HR K μ H M) (r : Rw K μ H (.ref k) v) : tyV K "list" v H := by
  obtain ⟨a, q, rfl⟩ := r
  obtain ⟨vs, h⟩ := hr.lsts a (List.mem_of_getElem? q)
  exact .inl ⟨rfl, vs, SqL.of h⟩
/-- o.m(e) of a list that may be changed -/
def eM1 (g : W → W → Mm → Oc W) (fo fe : FE) : FE := fun L M => (fo L M).bind fun x M1 => match x with
  | .ref k => (fe L M1).bind fun y M2 => g (.ref k) y M2
  | _ => .bad
theorem ev_append {apos cpos : Pos} (ho : Ev X K Z o fo) (he : Ev X K Z e fa) (hbase : attributeBase o "append" X.env (eval o X.env) = eval o X.env := by rfl)
    (hfew : ((backTo cpos (starEach [e] X.env)).all (fun x => !x.1) && (backToKw cpos (keywordEach [] X.env)).all (fun x => x.1.isSome) && decide ([e].length + ([] : List Keyword).length + (if ([] : List Keyword).isEmpty then 0 else 1) < 30)) = true := by rfl)
    (hline : (apos.endLine == cpos.line) = true := by rfl) (hs : starEach [e] X.env = (false, eval e X.env) :: starEach [] X.env := by rfl) (hplain : (backTo cpos (starEach [] X.env)).any (·.1) = false := by rfl) :
    Ev X K Z (.Call (.Attribute o "append" apos) [e] [] cpos) (eM1 pAppend fo fa) := by
  have h := pe_bm PySem.F.plainAttrs_list PySem.F.slot_list_append PySem.F.type_list_append mt_append ho.h (pa_cons he.h pa_nil hs) hbase hfew hline hs hplain
  rw [ho.k] at h
  refine ⟨ho.k, cqE h ?_⟩
  rintro σ H Q ⟨μ, M, L, hr, lr, p⟩
  refine ⟨μ, M, L, hr, lr, p.bind.imp fun μ1 H1 M1 x e1 hr1 _ p1 v rx => ?_⟩
  cases x with
  | d x => exact p1.elim
  | ref k =>
    refine ⟨ref_ty hr1 rx, μ1, M1, L, hr1, lr.ext hr.lsts e1, p1.bind.imp fun μ2 H2 M2 y e2 hr2 _ p2 u ry => ?_⟩
    cases y with
    | ref j => exact p2.elim
    | d d =>
      simp only [pAppend] at p2
      cases q1 : M2[k]? with
      | none => simp only [q1] at p2; exact p2.elim
      | some xs =>
        simp only [q1] at p2
        split at p2
        · rename_i hz
          obtain ⟨a, qa, rfl⟩ := rx.ext hr1.lsts e2
          obtain ⟨a', vs, qa', h1, r1⟩ := hr2.at q1
          rw [qa] at qa'; cases qa'
          refine ⟨a, vs, u, rfl, rfl, h1, by rw [← r1.length, sizeLine_eq]; exact hz, ?_⟩
          exact p2 μ2 _ (ext_set qa) (hr2.set qa (r1.append (.cons ry .nil))) _ (by simp [Rw, Rp])
        · exact p2.elim
def pExtend (x y : W) (M : Mm) : Oc W := match x with
  | .ref k => match M[k]?, lv M y with
    | some xs, some ys => if xs.length + ys.length ≤ 16777216 then .ok (.d .non) (M.set k (xs ++ ys)) else .bad
    | _, _ => .bad
  | _ => .bad
def pPop (x : W) (M : Mm) : Oc W := match x with
  | .ref k => match M[k]? with
    | some xs => match xs.getLast? with
      | some d => .ok (.d d) (M.set k xs.dropLast)
      | none => .bad
    | none => .bad
  | _ => .bad
/-- xs.pop(i) -/
def pPopAt (x y : W) (M : Mm) : Oc W := match x, y with
  | .ref k, .d (.int i) => match M[k]? with
    | some xs => match seqIndex? i xs.length with
      | some j => match xs[j]? with
        | some d => if -9223372036854775808 ≤ i ∧ i < 9223372036854775808 then .ok (.d d) (M.set k (xs.eraseIdx j)) else .bad
        | none => .bad
      | none => .bad
    | none => .bad
  | _, _ => .bad
/-! ### slices -/
abbrev FO := Lc → Mm → Oc (Option Int)
def liftO (K : PySem.W.Frag) (Z : Zt) (f : FO) : TO := fun σ H Q => ∃ μ M L, HR K μ H M ∧ LR K μ H L σ ∧ Pst K Z μ H (f L M) fun μ' H' _ w => Q w H'
structure Eo (X : Cx) (K : PySem.W.Frag) (Z : Zt) (e : Option Expr) (f : FO) : Prop where
  k : X.K = K
  h : PO X e (liftO K Z f)
def oNo : FO := fun _ M => .ok none M
def oAt (f : FE) : FO := fun L M => (f L M).bind fun w M1 => match w with
  | .d (.int i) => .ok (some i) M1
  | _ => .bad
theorem cqO {oe : Option Expr} {t t' : TO} (h : PO X oe t) (i : ∀ σ H Q, t' σ H Q → t σ H Q) : PO X oe t' := fun pins s σ H Q I q => h pins s σ H Q I (i _ _ _ q)
theorem eo_no (hk : X.K = K := by rfl) : Eo X K Z none oNo := ⟨hk, cqO po_none fun σ H Q ⟨μ, M, L, hr, lr, p⟩ => p μ H .refl hr⟩
theorem eo_at (h : Ev X K Z e f) : Eo X K Z (some e) (oAt f) := by
  refine ⟨h.k, cqO (po_some h.h) ?_⟩
  rintro σ H Q ⟨μ, M, L, hr, lr, p⟩
  refine ⟨μ, M, L, hr, lr, p.bind.imp fun μ1 H1 M1 x e1 hr1 _ p1 v rx => ?_⟩
  cases x with
  | ref i => exact p1.elim
  | d x => cases x with
    | int i => simp only [Rw, Rp] at rx; exact ⟨i, rx, p1 μ1 H1 .refl hr1⟩
    | _ => exact p1.elim
def cut {α : Type} (xs : List α) (lo hi : Option Int) : List α := (xs.drop (HT.sIx xs.length 0 lo)).take (HT.sIx xs.length xs.length hi - HT.sIx xs.length 0 lo)
def pSl (x : W) (lo hi : Option Int) (M : Mm) : Oc W := match x with
  | .d (.tup xs) => okD (.tup (cut xs lo hi)) M
  | x => match lr M x with
    | some xs => okD (.lst (cut xs lo hi)) M
    | none => .bad
def eSl (f : FE) (fl fh : FO) : FE := fun L M => (f L M).bind fun x M1 => (fl L M1).bind fun lo M2 => (fh L M2).bind fun hi M3 => pSl x lo hi M3
theorem cut_rps {ds : List D} {vs : List V} {lo hi : Option Int} (r : Rps K μ H ds vs) : Rps K μ H (cut ds lo hi) (cutV vs lo hi) := by
  unfold cut cutV
  rw [r.length]
  exact (r.drop _).take _
end
end EV

set_option Elab.async false
set_option linter.all false
set_option maxRecDepth 100000
set_option maxHeartbeats 4000000
namespace EV
open PySem PySem.Spec PyProof.Rows L2

/-! ### a tuple times an int -/
theorem noFill_tuple_mul : fillsNumberSlot (.type "tuple") "mul" = pure false :=
  PySem.fillsNumberSlot_seq (id := "tuple.__mul__") (r := some (.builtin "tuple.__rmul__")) F.slot_tuple_mul.lookup (by decide +kernel) F.slot_tuple_rmul.lookup (by decide +kernel)
theorem repeat_tuple : seqRepeat? (.type "tuple") = pure (some (.builtin "tuple.__mul__")) := by
  unfold seqRepeat?
  rw [PySem.seqSlot_of (T := "tuple") (name := "__mul__") (id := "tuple.__mul__") F.slot_tuple_mul.lookup (by decide +kernel), PySem.seqSlot_of (T := "tuple") (name := "__rmul__") (id := "tuple.__rmul__") F.slot_tuple_rmul.lookup (by decide +kernel)]
  rfl
theorem rmul_int_tuple (a : Int) (t : Tok) (l : Addr) (items : Array Value) (n : Nat) (dd : Option Addr) (sl : Array (Option Value)) :
    Meets (Builtin.«int.__rmul__» ⟨[.int a t, .ref l], []⟩) (fun _ R s => s.heap.get? l = some { cls := .type "tuple", dict := dd, data := .seq items n, slots := sl } ∧ R (.ok (.ret Value.notImplemented)) s) :=
  .of_wp fun prog w A R s h => by obtain ⟨hp, g, d, tk, os⟩ := s; obtain ⟨hl, h⟩ := h; wp_walk using wpAny_loadPart' hl; exact ⟨_, rfl, h⟩
theorem tuple_mulS (l : Addr) (items : Array Value) (n : Nat) (dd : Option Addr) (sl : Array (Option Value)) (x : Int) (u : Tok) (h1 : (decide (x < -(2 ^ 63)) || decide (x ≥ 2 ^ 63)) = false) (h2 : (items.isEmpty || x == 1) = true) :
    Meets (Builtin.«tuple.__mul__» ⟨[.ref l, .int x u], []⟩) (fun _ R s => s.heap.get? l = some { cls := .type "tuple", dict := dd, data := .seq items n, slots := sl } ∧ R (.ok (.ret (Value.ref l))) s) :=
  .of_wp fun prog w A R s h => by
    obtain ⟨hp, g, d, tk, os⟩ := s; obtain ⟨hl, h⟩ := h
    have f1 := AutoSeq1.idx_int
    wp_walk using wpAny_loadPart' hl
    refine wpAny_ite_false (by rw [h1]; rfl) ?_
    wp_walk using wpAny_loadPart' hl
    exact ⟨_, rfl, h⟩
theorem tuple_mul0 (l : Addr) (items : Array Value) (n : Nat) (dd : Option Addr) (sl : Array (Option Value)) (x : Int) (u : Tok) (h1 : (decide (x < -(2 ^ 63)) || decide (x ≥ 2 ^ 63)) = false) (h2 : (items.isEmpty || x == 1) = false) (h3 : (decide (x ≤ 0) || items.isEmpty) = true) :
    Meets (Builtin.«tuple.__mul__» ⟨[.ref l, .int x u], []⟩) (fun _ R s => s.heap.get? l = some { cls := .type "tuple", dict := dd, data := .seq items n, slots := sl } ∧ R (.ok (.ret (Value.ref s.heap.objs.size))) { s with heap := s.heap.push { cls := Value.type "tuple", data := Data.seq #[] }, toks := s.toks }) :=
  .of_wp fun prog w A R s h => by
    obtain ⟨hp, g, d, tk, os⟩ := s; obtain ⟨hl, h⟩ := h
    have f1 := AutoSeq1.idx_int
    wp_walk using wpAny_loadPart' hl
    refine wpAny_ite_false (by rw [h1]; rfl) ?_
    wp_walk using wpAny_loadPart' hl
    exact ⟨_, rfl, h⟩
theorem tuple_mul3 (l : Addr) (items : Array Value) (n : Nat) (dd : Option Addr) (sl : Array (Option Value)) (x : Int) (u : Tok) (h1 : (decide (x < -(2 ^ 63)) || decide (x ≥ 2 ^ 63)) = false) (h2 : (items.isEmpty || x == 1) = false) (h3 : (decide (x ≤ 0) || items.isEmpty) = false)
    (h4 : ¬ ((items.size : Int) * x > (2 ^ 63 - 1) / 8)) (h5 : ¬ Builtin.Tuple.tupleTooMany (items.size * x) = true) (hsz : (List.foldl (fun x1 x2 => x1 ++ x2) #[] (List.replicate x.toNat items)).size ≤ sizeLine) :
    Meets (Builtin.«tuple.__mul__» ⟨[.ref l, .int x u], []⟩) (fun _ R s => s.heap.get? l = some { cls := .type "tuple", dict := dd, data := .seq items n, slots := sl } ∧ R (.ok (.ret (Value.ref s.heap.objs.size))) { s with heap := s.heap.push { cls := Value.type "tuple", data := Data.seq (List.foldl (fun x1 x2 => x1 ++ x2) #[] (List.replicate x.toNat items)) }, toks := s.toks }) :=
  .of_wp fun prog w A R s h => by
    obtain ⟨hp, g, d, tk, os⟩ := s; obtain ⟨hl, h⟩ := h
    have f1 := AutoSeq1.idx_int
    wp_walk using wpAny_loadPart' hl
    refine wpAny_ite_false (by rw [h1]; rfl) ?_
    wp_walk using wpAny_loadPart' hl
    refine wpAny_ite_false (decide_eq_false h4) ?_
    wp_walk using wpAny_loadPart' hl
    exact ⟨_, rfl, h⟩
section
variable {X : Cx} {K : PySem.W.Frag} {Z : Zt} {μ : List Addr} {H : Hp} {M : Mm}
/-- a tuple times an int -/
def rRepT (K : PySem.W.Frag) : R2 := fun x y H Q => ∃ a k xs, x = .ref a ∧ y = .int k ∧ SqT K H a xs ∧ -(2 ^ 63) ≤ k ∧ k < 2 ^ 63 ∧ xs.length * k.toNat ≤ sizeLine ∧
  ((xs = [] ∨ k = 1) → Q (.ref a) H) ∧ ∀ p, H p = none → Q (.ref p) (upd H p (.tup (List.replicate k.toNat xs).flatten))
theorem foldl_repA (its : List Value) (m : Nat) : List.foldl (fun x1 x2 => x1 ++ x2) #[] (List.replicate m its.toArray) = (List.replicate m its).flatten.toArray := by
  have := foldl_rep its m []
  rw [List.nil_append] at this
  exact this
theorem op_repT : OpR X (binaryOp .Mult) (rRepT X.K) := by
  intro pins s σ H x y v u Q I rx ry h
  obtain ⟨l, k, xs, rfl, rfl, hH, h1, h2, hz, qs, q⟩ := h
  cases rx
  obtain ⟨t, rfl⟩ := ry
  obtain ⟨its, r, pl, hsz⟩ := I.tuple hH
  obtain ⟨⟨cls, dd, data, sl⟩, ho, hc, n, hd⟩ := id pl
  simp only at hc hd
  subst hc hd
  have hl := r.length
  have b1 : (decide (k < -(2 ^ 63)) || decide (k ≥ 2 ^ 63)) = false := by
    rw [Bool.or_eq_false_iff]; exact ⟨decide_eq_false (by omega), decide_eq_false (by omega)⟩
  refine wpAny_binaryOp_repeat_ref (T := "tuple") (U := "int") (by decide) ⟨_, ho, rfl⟩ (fun s' => typeIs_int s' k t) noFill_tuple_mul F.fills_int_mul F.slot_int_rmul repeat_tuple F.slot_int_index.lookup
    (call_meets F.slot_int_rmul (typeIs_int s k t) F.entry_int_rmul (F.args_int_rmul_2 _ _) (rmul_int_tuple k t l its.toArray n dd sl) ⟨ho, rfl, ⟨_, ho, rfl⟩, ?_⟩)
  by_cases hs : xs = [] ∨ k = 1
  · refine call_meets F.slot_tuple_mul ⟨_, ho, rfl⟩ F.entry_tuple_mul (F.args_tuple_mul_2 _ _) (tuple_mulS l its.toArray n dd sl k t b1 ?_) ⟨ho, ⟨.ref l, H, I, rfl, qs hs⟩⟩
    rcases hs with hs | hs
    · subst hs
      have : its = [] := by simpa using hl.symm
      simp [this]
    · simp [hs]
  · have hne : its ≠ [] := fun z => hs (.inl (by subst z; simpa using hl))
    have hn1 : (its.toArray.isEmpty || k == 1) = false := by
      rw [Bool.or_eq_false_iff]; exact ⟨by simpa using hne, by simp; exact fun z => hs (.inr z)⟩
    by_cases h0 : k ≤ 0
    · refine call_meets F.slot_tuple_mul ⟨_, ho, rfl⟩ F.entry_tuple_mul (F.args_tuple_mul_2 _ _) (tuple_mul0 l its.toArray n dd sl k t b1 hn1 (by simp [h0])) ⟨ho, ?_⟩
      have e : (List.replicate k.toNat xs).flatten = [] := by rw [show k.toNat = 0 by omega]; rfl
      have q := q s.heap.objs.size I.fresh
      rw [e] at q
      refine ⟨.ref s.heap.objs.size, _, I.laid (t' := s.toks) (o := .tup []) (fun b ob q => Heap.get?_push_of_some _ q) (Nat.le_refl _) ?_, rfl, q⟩
      exact ⟨Nat.zero_le _, [], .nil, IsTup.new _ _⟩
    · have hk : ((k.toNat : Nat) : Int) = k := by omega
      have hz' : its.length * k.toNat ≤ sizeLine := by rw [← hl]; exact hz
      have hcast : ((its.toArray.size : Nat) : Int) * k = ((its.length * k.toNat : Nat) : Int) := by
        rw [List.size_toArray, Int.natCast_mul, hk]
      have hs24 : (sizeLine : Nat) = 16777216 := sizeLine_eq
      refine call_meets F.slot_tuple_mul ⟨_, ho, rfl⟩ F.entry_tuple_mul (F.args_tuple_mul_2 _ _) (tuple_mul3 l its.toArray n dd sl k t b1 hn1 ?_ ?_ ?_ ?_) ⟨ho, ?_⟩
      · rw [Bool.or_eq_false_iff]; exact ⟨decide_eq_false h0, by simpa using hne⟩
      · rw [hcast]; omega
      · unfold Builtin.Tuple.tupleTooMany
        rw [hcast]
        intro z
        have z := of_decide_eq_true z
        omega
      · rw [foldl_repA, List.size_toArray, len_rep, Nat.mul_comm]; exact hz'
      · rw [foldl_repA]
        refine ⟨.ref s.heap.objs.size, _, I.laid (t' := s.toks) (o := .tup (List.replicate k.toNat xs).flatten) (fun b ob q => Heap.get?_push_of_some _ q) (Nat.le_refl _) ?_, rfl, q _ I.fresh⟩
        exact ⟨by rw [len_rep, Nat.mul_comm]; exact hz, _, r.rep k.toNat, IsTup.new _ _⟩
def pMulA (x y : W) (M : Mm) : Oc W := match x, y with
  | .d (.tup xs), .d (.int k) => if xs.length * k.toNat ≤ 16777216 ∧ k < 9223372036854775808 ∧ -9223372036854775808 ≤ k then okD (.tup (List.replicate k.toNat xs).flatten) M else .bad
  | x, y => pMul x y M
theorem opMulA : OpG X K Z (binaryOp .Mult) pMulA := fun hk => by
  obtain ⟨r, h1, h2⟩ := (opMul (X := X) (K := K) (Z := Z)) hk
  refine ⟨_, OpR.or (hk ▸ op_repT) h1, ?_⟩
  intro μ H M x y v u Q hr rx ry p
  have gen := fun p => (Or.inr (h2 μ H M x y v u Q hr rx ry p) : rRepT K v u H Q ∨ r v u H Q)
  cases x with
  | ref i => exact gen (by cases y with | ref j => exact p | d y => cases y <;> exact p)
  | d x => cases x with
    | tup xs => cases y with
      | ref j => exact gen p
      | d y => cases y with
        | int k =>
          simp only [pMulA] at p
          split at p
          · rename_i hz
            have rx' := rx
            simp only [Rw, Rp] at rx ry
            obtain ⟨a, vs, rfl, q1, r1⟩ := rx
            refine .inl ⟨a, k, vs, rfl, ry, SqT.of q1, hz.2.2, hz.2.1, by rw [← r1.length, sizeLine_eq]; exact hz.1, fun e => ?_, new_tup hr (r1.rep k.toNat) p⟩
            refine p μ H .refl hr _ ?_
            have : (List.replicate k.toNat xs).flatten = xs := by
              rcases e with e | e
              · subst e
                have : xs = [] := by have := r1.length; simpa using this
                subst this; simp
              · subst e; simp [List.replicate]
            rw [this]; exact rx'
          · exact p.elim
        | _ => exact gen p
    | _ => exact gen (by cases y with | ref j => exact p | d y => cases y <;> exact p)
end
end EV

set_option Elab.async false
set_option linter.all false
set_option maxRecDepth 100000
set_option maxHeartbeats 4000000
namespace HT
open PySem PySem.Spec PyProof.Rows
section
variable {prog : Program} {w : World} {A : Around} {E : Value → Shared → Prop} {s : Shared}
theorem getItem_tuple_whole {t sl : Addr} {items : Array Value} {vl vu : Value} {lo hi : Option Int} {Q : Value → Shared → Prop} (ht : IsTup s.heap t items) (hs : s.heap.IsSliceOf sl vl vu .none) (pl : IsPart vl lo) (pu : IsPart vu hi)
    (hw : sIx items.size 0 lo = 0 ∧ sIx items.size items.size hi = items.size) (h : Q (.ref t) s) : wpAny (model prog w) A (getItem (.ref t) (.ref sl)) Q E s := by
  obtain ⟨os, hos, hcs, hds⟩ := id hs
  have hTs : s.TypeIs (.ref sl) "slice" := ⟨os, hos, hcs⟩
  unfold getItem
  try with_reducible refine wpAny_holding ?_
  first | refine wpAny_bind (wpAny_pure ?_) | skip
  refine wpAny_bind (wpAny_sequenceKey ht.typeIs (by decide) ?_)
  refine wpAny_bind (wpAny_callSpecial?_slot (name := Str.ofString "__getitem__") ht.typeIs PyProof.Rows.slot_tuple_getitem
    (wpAny_call_entry PyProof.Rows.slot_tuple_getitem ht.typeIs entry_tuple_getitem ?_ (args_tuple_getitem _ _)))
  show wpAny _ _ (Builtin.Tuple.tupleItemsOf (.ref t) >>= _) _ _ s
  refine wpAny_bind (tupleItemsOf_ ht ?_)
  refine wpAny_bind (wpAny_typeOf hTs ?_)
  rw [if_pos (by decide)]
  refine wpAny_bind (sliceApplied_gen hs pl pu ?_)
  have hyes : ((((sIx items.size 0 lo : Nat) : Int) == 0 && (1 : Int) == 1 && (sIx items.size items.size hi - sIx items.size 0 lo) == items.size) = true) := by
    rw [hw.1, hw.2]; simp
  show wpAny _ _ (if (((sIx items.size 0 lo : Nat) : Int) == 0 && (1 : Int) == 1 && (sIx items.size items.size hi - sIx items.size 0 lo) == items.size) = true then _ else _) _ _ s
  rw [if_pos hyes]
  refine wpAny_bind (m := Builtin.Tuple.tupleIsExact _) ?_
  unfold Builtin.Tuple.tupleIsExact
  refine wpAny_bind (wpAny_typeOf ht.typeIs (wpAny_pure ?_))
  show wpAny _ _ (if ((Value.type "tuple" == Value.type "tuple") = true) then _ else _) _ _ s
  rw [if_pos (by decide)]
  first
    | exact wpAny_bind (wpAny_rule (wpAny_pure ⟨_, rfl, wpAny_pure h⟩))
    | exact wpAny_bind (wpAny_rule (wpAny_bind (wpAny_pure ⟨_, rfl, wpAny_pure h⟩)))
    | exact wpAny_bind (wpAny_rule (wpAny_bind (wpAny_pure (wpAny_pure ⟨_, rfl, wpAny_pure h⟩))))
end
end HT

set_option Elab.async false
set_option linter.all false
set_option maxRecDepth 100000
set_option maxHeartbeats 4000000
namespace EV
open PySem PySem.Spec PyProof.Rows L2
section
variable {X : Cx} {K : PySem.W.Frag} {Z : Zt} {μ : List Addr} {H : Hp} {M : Mm} {e a b o : Expr} {es : List Expr} {pos : Pos} {f fa fb fo : FE} {fs : FA} {st : Stmt} {rest : List Stmt} {F G : FS}
/-! ### slices -/
def rSlA (K : PySem.W.Frag) : V → Option Int → Option Int → Hp → VK → Prop := fun x lo hi H Q => ∃ a xs, x = .ref a ∧ SqT K H a xs ∧
  ((HT.sIx xs.length 0 lo = 0 ∧ HT.sIx xs.length xs.length hi = xs.length) → Q (.ref a) H) ∧ ∀ p, H p = none → Q (.ref p) (upd H p (.tup (cutV xs lo hi)))
theorem sl_tupA : SlR X (rSlA X.K) := by
  intro pins s σ H x v vl vu lo hi sl Q I rx hs pl pu h
  obtain ⟨a, xs, rfl, hx, q1, q2⟩ := h
  by_cases hw : HT.sIx xs.length 0 lo = 0 ∧ HT.sIx xs.length xs.length hi = xs.length
  · cases rx
    obtain ⟨its, r, ht, hz⟩ := I.tuple hx
    have hlen : its.toArray.size = xs.length := by rw [List.size_toArray]; exact r.length.symm
    refine ⟨"tuple", _, PyProof.Rows.slot_tuple_getitem.lookup, ht.typeIs, ?_⟩
    exact HT.getItem_tuple_whole ht hs pl pu (by rw [hlen]; exact hw) ⟨.ref a, H, I, rfl, q1 hw⟩
  · exact sl_tup pins s σ H _ v vl vu lo hi sl Q I rx hs pl pu ⟨a, xs, rfl, hx, hw, q2⟩
theorem cut_whole {xs : List D} {lo hi : Option Int} (h : HT.sIx xs.length 0 lo = 0 ∧ HT.sIx xs.length xs.length hi = xs.length) : cut xs lo hi = xs := by
  unfold cut; rw [h.1, h.2]; simp
theorem pSl_list {x : W} {v : V} {lo hi : Option Int} {Q : VK} (hr : HR K μ H M) (rx : Rw K μ H x v) (p : Pst K Z μ H (match lr M x with
    | some xs => okD (.lst (cut xs lo hi)) M
    | none => .bad) (Wk K Q)) : rSlL K v lo hi H Q := by
  cases q1 : lr M x with
  | none => rw [q1] at p; exact p.elim
  | some xs =>
    rw [q1] at p
    obtain ⟨a, vs, rfl, h1, r1⟩ := lr_at hr rx q1
    exact ⟨a, vs, rfl, h1, new_lst hr (cut_rps r1) p⟩
theorem ev_slice {lo hi : Option Expr} {fl fh : FO} {p2 : Pos} (he : Ev X K Z e f) (hl : Eo X K Z lo fl) (hh : Eo X K Z hi fh) : Ev X K Z (.Subscript e (.Slice lo hi none p2) pos) (eSl f fl fh) := by
  have h := pe_slice (p2 := p2) (pos := pos) (SlR.or (sl_tupA (X := X)) sl_list) he.h hl.h hh.h
  rw [he.k] at h
  refine ⟨he.k, cqE h ?_⟩
  rintro σ H Q ⟨μ, M, L, hr, lr, p⟩
  refine ⟨μ, M, L, hr, lr, p.bind.imp fun μ1 H1 M1 x e1 hr1 _ p1 v rx => ?_⟩
  refine ⟨μ1, M1, L, hr1, lr.ext hr.lsts e1, p1.bind.imp fun μ2 H2 M2 l e2 hr2 _ p2 => ?_⟩
  refine ⟨μ2, M2, L, hr2, lr.ext hr.lsts (e1.trans e2), p2.bind.imp fun μ3 H3 M3 u e3 hr3 _ p3 => ?_⟩
  have rx := rx.ext hr1.lsts (e2.trans e3)
  cases x with
  | ref i => exact .inr (pSl_list hr3 rx p3)
  | d x => cases x with
    | tup xs =>
      have rx' := rx
      simp only [Rw, Rp] at rx
      obtain ⟨a, vs, rfl, q1, r1⟩ := rx
      refine .inl ⟨a, vs, rfl, SqT.of q1, fun hw => ?_, new_tup hr3 (cut_rps r1) p3⟩
      refine p3 μ3 H3 .refl hr3 _ ?_
      rw [cut_whole (by rw [r1.length]; exact hw)]
      exact rx'
    | _ => exact .inr (pSl_list hr3 rx p3)

/-! ### isinstance -/
def isT (T : String) (M : Mm) : W → Option Bool
  | .d .non => some false
  | .d (.bl _) => some (T == "bool" || T == "int")
  | .d (.int _) => some (T == "int")
  | .d (.str _) => some (T == "str")
  | .d (.tup _) => some (T == "tuple")
  | .d (.lst _) => some (T == "list")
  | .d (.fz _) => none
  | .ref _ => some (T == "list")
def pIsI (T : String) (x : W) (M : Mm) : Oc W := match isT T M x with
  | some b => .ok (.d (.bl b)) M
  | none => .bad
structure KitT (T : String) : Prop where
  non : ∀ K, PySem.W.kitOne K (.type "NoneType") (.type T) = some false
  bl : ∀ K, PySem.W.kitOne K (.type "bool") (.type T) = some (T == "bool" || T == "int")
  int : ∀ K, PySem.W.kitOne K (.type "int") (.type T) = some (T == "int")
  str : ∀ K, PySem.W.kitOne K (.type "str") (.type T) = some (T == "str")
  tup : ∀ K, PySem.W.kitOne K (.type "tuple") (.type T) = some (T == "tuple")
  lst : ∀ K, PySem.W.kitOne K (.type "list") (.type T) = some (T == "list")
/-! ### in, of flat data -/
def flatD (d : D) : Bool := (fv d).isSome
def pInG (neg : Bool) (x y : W) (M : Mm) : Oc W := match x, sv M y with
  | .d d, some xs => if flatD d = true ∧ xs.all flatD = true then .ok (.d (.bl (if neg then !(xs.any fun y => eqD y d) else xs.any fun y => eqD y d))) M else .bad
  | _, _ => .bad
abbrev pIn := pInG false
abbrev pNotIn := pInG true
end
end EV

set_option Elab.async false
set_option linter.all false
set_option maxRecDepth 100000
set_option maxHeartbeats 4000000
namespace EV
open PySem PySem.Spec PyProof.Rows L2

/-! ### while -/
def whileD (t : FT) (B : FS) : Nat → FS
  | 0 => fun _ _ => .bad
  | n + 1 => fun L M => (t L M).bind fun b M1 => if b = true then (B L M1).bind fun o M2 => match o with
      | .nx L2 => whileD t B n L2 M2
      | .ct L2 => whileD t B n L2 M2
      | .bk L2 => .ok (.nx L2) M2
      | .rt w => .ok (.rt w) M2
    else .ok (.nx L) M1

/-! ### for -/
/-- what is walked: its items, and which list it is where that may be changed -/
structure Src where
  ds : List D
  k : Option Nat
abbrev FI := Lc → Mm → Oc Src
def Chk (s : Src) (M : Mm) : Prop := ∀ t, s.k = some t → M[t]? = some s.ds
open Classical in
noncomputable def forD (s : Src) (g : FG) (B : FS) : List D → FS
  | [] => fun L M => if Chk s M then .ok (.nx L) M else .bad
  | d :: r => fun L M => if Chk s M then (g (.d d) L M).bind fun L1 M1 => (B L1 M1).bind fun o M2 => match o with
      | .nx L2 => forD s g B r L2 M2
      | .ct L2 => forD s g B r L2 M2
      | .bk L2 => .ok (.nx L2) M2
      | .rt w => .ok (.rt w) M2
    else .bad
noncomputable def sFor (fi : FI) (g : FG) (B : FS) : FS := fun L M => (fi L M).bind fun s M1 => forD s g B s.ds L M1
/-- J walks the items -/
def ItOk (K : PySem.W.Frag) (μ : List Addr) (H : Hp) (s : Src) (J : It) : Prop :=
  ∃ S : List Addr → Hp → Prop, S μ H ∧ (∀ μ1 H1 μ2 H2, Lsts μ1 H1 → S μ1 H1 → Ext μ1 H1 μ2 H2 → S μ2 H2) ∧
    ∀ μ1 H1 M1 i, HR K μ1 H1 M1 → S μ1 H1 → Chk s M1 →
      (∀ d, s.ds[i]? = some d → J.go i H1 ∧ ∀ x H2, J.yld i H1 x H2 → Ext μ1 H1 μ1 H2 ∧ HR K μ1 H2 M1 ∧ Rp K μ1 H2 d x) ∧ (s.ds.length ≤ i → J.stop i H1)
def liftI (K : PySem.W.Frag) (Z : Zt) (fi : FI) : TI := fun σ H R => ∃ μ M L, HR K μ H M ∧ LR K μ H L σ ∧ Pst K Z μ H (fi L M) fun μ' H' _ s => ∀ J, ItOk K μ' H' s J → R J H'
structure Ei (X : Cx) (K : PySem.W.Frag) (Z : Zt) (tg iter : Expr) (fi : FI) : Prop where
  k : X.K = K
  h : PI X tg iter (liftI K Z fi)
theorem cqI {X : Cx} {tg iter : Expr} {t t' : TI} (h : PI X tg iter t) (i : ∀ σ H Q, t' σ H Q → t σ H Q) : PI X tg iter t' := fun pins s σ H Q I q => h pins s σ H Q I (i _ _ _ q)

section
variable {X : Cx} {K : PySem.W.Frag} {Z : Zt} {μ : List Addr} {H : Hp} {M : Mm} {e a b o : Expr} {es : List Expr} {pos : Pos} {f fa fb fo : FE} {fs : FA} {st : Stmt} {rest : List Stmt} {F G : FS}
theorem es_while {c : Expr} {body : List Stmt} {t : FT} {B : FS} (n : Nat) (hp : PassesOwn (model X.prog X.w) X.A X.env X.xe) (hc : Et X K Z c t) (hb : Ess X K Z body B) : Es X K Z (.While c body [] pos) (whileD t B n) := by
  refine ⟨hc.k, cqS (ps_while hp hc.h hb.h) ?_⟩
  rintro E σ H ⟨μ, M, L, hr, lr, p⟩
  refine ⟨fun m σ H => ∃ μ M L, HR K μ H M ∧ LR K μ H L σ ∧ Pst K Z μ H (whileD t B m L M) (Sk K E), ⟨n, μ, M, L, hr, lr, p⟩, ?_⟩
  rintro m σ H ⟨μ, M, L, hr, lr, p⟩
  cases m with
  | zero => exact p.elim
  | succ m =>
    refine ⟨μ, M, L, hr, lr, (show Pst K Z μ H ((t L M).bind _) _ from p).bind.imp fun μ1 H1 M1 b e1 hr1 _ p1 => ?_⟩
    cases b with
    | false => exact p1 μ1 H1 .refl hr1 σ (lr.ext hr.lsts e1)
    | true =>
      refine ⟨fun σ' H' => ∃ μ M L, HR K μ H' M ∧ LR K μ H' L σ' ∧ Pst K Z μ H' (whileD t B m L M) (Sk K E), fun σ' H' q => ⟨m, Nat.lt_succ_self m, q⟩, ?_⟩
      refine ⟨μ1, M1, L, hr1, lr.ext hr.lsts e1, (show Pst K Z μ1 H1 ((B L M1).bind _) _ from p1).bind.imp fun μ2 H2 M2 o e2 hr2 _ p2 => ?_⟩
      cases o with
      | nx L2 => exact fun σ' lr' => ⟨μ2, M2, L2, hr2, lr', p2⟩
      | ct L2 => exact fun σ' lr' => ⟨μ2, M2, L2, hr2, lr', p2⟩
      | bk L2 => exact p2 μ2 H2 .refl hr2
      | rt w => exact p2 μ2 H2 .refl hr2
theorem es_for {tg iter : Expr} {body : List Stmt} {fi : FI} {g : FG} {B : FS} (hp : PassesOwn (model X.prog X.w) X.A X.env X.xe) (hc : X.calm = true) (hi : Ei X K Z tg iter fi) (hg : Eg X K Z tg g) (hb : Ess X K Z body B)
    (hs : ∀ x, foldedSetIterable iter X.env x = pure x := by intro _; rfl) : Es X K Z (.For tg iter body [] pos) (sFor fi g B) := by
  refine ⟨hi.k, cqS (ps_for hp hc hi.h hg.h hb.h hs) ?_⟩
  rintro E σ H ⟨μ, M, L, hr, lr, p⟩
  refine ⟨μ, M, L, hr, lr, p.bind.imp fun μ1 H1 M1 s e1 hr1 _ p1 J hJ => ?_⟩
  obtain ⟨S, s0, sx, step⟩ := hJ
  refine ⟨fun i m σ H => m = s.ds.length - i ∧ i ≤ s.ds.length ∧ ∃ μ M L, HR K μ H M ∧ LR K μ H L σ ∧ S μ H ∧ Pst K Z μ H (forD s g B (s.ds.drop i) L M) (Sk K E), ⟨s.ds.length, by simp, Nat.zero_le _, μ1, M1, L, hr1, lr.ext hr.lsts e1, s0, by simpa using p1⟩, ?_⟩
  rintro i m σ H ⟨rfl, hi, μ, M, L, hr, lr, sS, p⟩
  by_cases hlt : i < s.ds.length
  · rw [List.drop_eq_getElem_cons hlt] at p
    unfold forD at p
    split at p
    · rename_i hch
      obtain ⟨go, yl⟩ := (step μ H M i hr sS hch).1 s.ds[i] (by simp [hlt])
      refine .inr ⟨go, fun σ' H' => i + 1 ≤ s.ds.length ∧ ∃ μ M L, HR K μ H' M ∧ LR K μ H' L σ' ∧ S μ H' ∧ Pst K Z μ H' (forD s g B (s.ds.drop (i + 1)) L M) (Sk K E), fun σ' H' q => ⟨s.ds.length - (i + 1), by omega, rfl, q.1, q.2⟩, fun x H2 y => ?_⟩
      obtain ⟨e2, hr2, rx⟩ := yl x H2 y
      have lr2 := lr.ext hr.lsts e2
      have s2 := sx _ _ _ _ hr.lsts sS e2
      refine ⟨μ, M, L, .d s.ds[i], hr2, lr2, rx, (Pst.mono e2 p).bind.imp fun μ3 H3 M3 L3 e3 hr3 _ p3 σ3 lr3 => ?_⟩
      refine ⟨μ3, M3, L3, hr3, lr3, p3.bind.imp fun μ4 H4 M4 o e4 hr4 _ p4 => ?_⟩
      have s4 := sx _ _ _ _ hr3.lsts (sx _ _ _ _ hr2.lsts s2 e3) e4
      cases o with
      | nx L4 => exact fun σ' lr' => ⟨hlt, μ4, M4, L4, hr4, lr', s4, p4⟩
      | ct L4 => exact fun σ' lr' => ⟨hlt, μ4, M4, L4, hr4, lr', s4, p4⟩
      | bk L4 => exact p4 μ4 H4 .refl hr4
      | rt w => exact p4 μ4 H4 .refl hr4
    · exact p.elim
  · have e : i = s.ds.length := by omega
    subst e
    rw [List.drop_eq_nil_of_le (Nat.le_refl _)] at p
    unfold forD at p
    split at p
    · rename_i hch
      exact .inl ⟨(step μ H M _ hr sS hch).2 (Nat.le_refl _), p μ H .refl hr σ lr⟩
    · exact p.elim
theorem chk_none {ds : List D} {M : Mm} : Chk ⟨ds, none⟩ M := fun t h => by cases h
@[simp] theorem chk_none_iff {ds : List D} {M : Mm} : Chk ⟨ds, none⟩ M ↔ True := ⟨fun _ => trivial, fun _ => chk_none⟩
@[simp] theorem chk_some_iff {ds : List D} {M : Mm} {t : Nat} : Chk ⟨ds, some t⟩ M ↔ M[t]? = some ds := ⟨fun h => h t rfl, fun h t' e => by cases e; exact h⟩

/-! ### what is walked -/
variable {tg : Expr}
def iSq (K : PySem.W.Frag) (tl : TE) : TI := fun σ H R => tl σ H fun x H1 => ∃ a, x = .ref a ∧ (((∃ xs, SqL K H1 a xs) ∧ R (Itl K a) H1) ∨ ((∃ xs, SqT K H1 a xs) ∧ R (Itt K a) H1))
theorem pi_sq {l : Expr} {tl : TE} (hl : PE X l tl) : PI X tg l (iSq X.K tl) := by
  intro pins s σ H R I h
  refine thn (hl pins s σ H _ I h) fun v s1 ⟨x, H1, I1, r1, q1⟩ => ?_
  obtain ⟨a, e, ⟨⟨xs, hq⟩, q⟩ | ⟨⟨xs, hq⟩, q⟩⟩ := q1
  · subst e
    cases r1
    obtain ⟨its, rv, p, hz⟩ := I1.list hq
    refine wpAny_pyIter_list p.isList ?_
    refine ⟨s1.heap.objs.size, [s1.heap.objs.size], _, _, H1, rfl, I1.kept (t' := s1.toks) fun b o e => Heap.get?_push_of_some _ e, turn_list a _, ⟨_, Heap.get?_push_size _ rfl, rfl, rfl⟩, fun b hb => ?_, q⟩
    have e : b = s1.heap.objs.size := by simpa using hb
    subst e
    exact I1.fpOk (Nat.le_refl _) (I1.hok.fresh (Nat.le_refl _))
  · subst e
    cases r1
    obtain ⟨its, rv, p, hz⟩ := I1.tuple hq
    refine wpAny_pyIter_tuple (show s1.heap.IsTuple a its.toArray from p) ?_
    refine ⟨s1.heap.objs.size, [s1.heap.objs.size], _, _, H1, rfl, I1.kept (t' := s1.toks) fun b o e => Heap.get?_push_of_some _ e, turn_tuple a _, ⟨_, Heap.get?_push_size _ rfl, rfl, rfl⟩, fun b hb => ?_, q⟩
    have e : b = s1.heap.objs.size := by simpa using hb
    subst e
    exact I1.fpOk (Nat.le_refl _) (I1.hok.fresh (Nat.le_refl _))
def srcOf (M : Mm) : W → Option Src
  | .d (.tup xs) => some ⟨xs, none⟩
  | .d (.lst xs) => some ⟨xs, none⟩
  | .d (.fz xs) => some ⟨xs, none⟩
  | .ref t => (M[t]?).map fun xs => ⟨xs, some t⟩
  | _ => none
def iE (f : FE) : FI := fun L M => (f L M).bind fun w M1 => match srcOf M1 w with
  | some s => .ok s M1
  | none => .bad
/-- a list that stands at a (as long as S holds), walked -/
theorem itl_ok {a : Addr} {s : Src} (S : List Addr → Hp → Prop) (s0 : S μ H) (sx : ∀ μ1 H1 μ2 H2, Lsts μ1 H1 → S μ1 H1 → Ext μ1 H1 μ2 H2 → S μ2 H2)
    (rd : ∀ μ1 H1 M1, HR K μ1 H1 M1 → S μ1 H1 → Chk s M1 → ∃ vs, SqL K H1 a vs ∧ Rps K μ1 H1 s.ds vs) : ItOk K μ H s (Itl K a) := by
  refine ⟨S, s0, sx, fun μ1 H1 M1 i hr hS hc => ?_⟩
  obtain ⟨vs, h1, r1⟩ := rd μ1 H1 M1 hr hS hc
  refine ⟨fun d hd => ?_, fun hl => ⟨vs, h1, by rw [← r1.length]; exact hl⟩⟩
  obtain ⟨v, q1, q2⟩ := r1.get hd
  refine ⟨⟨vs, v, h1, q1⟩, fun x H2 y => ?_⟩
  obtain ⟨rfl, y⟩ := y
  have := y vs h1
  rw [q1] at this
  cases this
  exact ⟨.refl, hr, q2⟩
theorem itt_ok {a : Addr} {s : Src} (S : List Addr → Hp → Prop) (s0 : S μ H) (sx : ∀ μ1 H1 μ2 H2, Lsts μ1 H1 → S μ1 H1 → Ext μ1 H1 μ2 H2 → S μ2 H2)
    (rd : ∀ μ1 H1 M1, HR K μ1 H1 M1 → S μ1 H1 → Chk s M1 → ∃ vs, SqT K H1 a vs ∧ Rps K μ1 H1 s.ds vs) : ItOk K μ H s (Itt K a) := by
  refine ⟨S, s0, sx, fun μ1 H1 M1 i hr hS hc => ?_⟩
  obtain ⟨vs, h1, r1⟩ := rd μ1 H1 M1 hr hS hc
  refine ⟨fun d hd => ?_, fun hl => ⟨vs, h1, by rw [← r1.length]; exact hl⟩⟩
  obtain ⟨v, q1, q2⟩ := r1.get hd
  refine ⟨⟨vs, v, h1, q1⟩, fun x H2 y => ?_⟩
  obtain ⟨rfl, y⟩ := y
  have := y vs h1
  rw [q1] at this
  cases this
  exact ⟨.refl, hr, q2⟩
/-- the data itself is what stays -/
theorem data_stays {d : D} {v : V} : ∀ μ1 H1 μ2 H2, Lsts μ1 H1 → Rp K μ1 H1 d v → Ext μ1 H1 μ2 H2 → Rp K μ2 H2 d v := fun μ1 H1 μ2 H2 l h e => Rp.ext l e d v h
theorem ei_e (h : Ev X K Z e f) : Ei X K Z tg e (iE f) := by
  have h' := pi_sq (tg := tg) h.h
  rw [h.k] at h'
  refine ⟨h.k, cqI h' ?_⟩
  rintro σ H R ⟨μ, M, L, hr, lr, p⟩
  refine ⟨μ, M, L, hr, lr, p.bind.imp fun μ1 H1 M1 w e1 hr1 _ p1 v rw' => ?_⟩
  cases w with
  | ref t =>
    simp only [srcOf] at p1
    cases q : M1[t]? with
    | none => simp only [q, Option.map_none] at p1; exact p1.elim
    | some xs =>
      simp only [q, Option.map_some] at p1
      obtain ⟨a, qa, rfl⟩ := rw'
      obtain ⟨a', vs, qa', h1, r1⟩ := hr1.at q
      rw [qa] at qa'; cases qa'
      refine ⟨a, rfl, .inl ⟨⟨vs, SqL.of h1⟩, p1 μ1 H1 .refl hr1 _ ?_⟩⟩
      refine itl_ok (fun μ2 H2 => μ2[t]? = some a) qa (fun μ1 H1 μ2 H2 _ z e => e.pre _ _ z) fun μ2 H2 M2 hr2 z c => ?_
      obtain ⟨a', vs, qa', h1, r1⟩ := hr2.at (c t rfl)
      rw [z] at qa'; cases qa'
      exact ⟨vs, SqL.of h1, r1⟩
  | d x =>
    cases x with
    | tup xs =>
      have rw2 := rw'
      simp only [Rw, Rp] at rw'
      obtain ⟨a, vs, rfl, h1, r1⟩ := rw'
      refine ⟨a, rfl, .inr ⟨⟨vs, SqT.of h1⟩, p1 μ1 H1 .refl hr1 _ ?_⟩⟩
      refine itt_ok (fun μ2 H2 => Rp K μ2 H2 (.tup xs) (.ref a)) rw2 data_stays fun μ2 H2 M2 hr2 z c => ?_
      simp only [Rp] at z
      obtain ⟨a', vs, e, h1, r1⟩ := z
      cases e
      exact ⟨vs, SqT.of h1, r1⟩
    | lst xs =>
      have rw2 := rw'
      simp only [Rw, Rp] at rw'
      obtain ⟨a, vs, rfl, h1, _, r1⟩ := rw'
      refine ⟨a, rfl, .inl ⟨⟨vs, SqL.of h1⟩, p1 μ1 H1 .refl hr1 _ ?_⟩⟩
      refine itl_ok (fun μ2 H2 => Rp K μ2 H2 (.lst xs) (.ref a)) rw2 data_stays fun μ2 H2 M2 hr2 z c => ?_
      simp only [Rp] at z
      obtain ⟨a', vs, e, h1, _, r1⟩ := z
      cases e
      exact ⟨vs, SqL.of h1, r1⟩
    | fz xs =>
      have rw2 := rw'
      simp only [Rw, Rp] at rw'
      obtain ⟨a, vs, rfl, h1, r1⟩ := rw'
      refine ⟨a, rfl, .inl ⟨⟨vs, h1.sq⟩, p1 μ1 H1 .refl hr1 _ ?_⟩⟩
      refine itl_ok (fun μ2 H2 => Rp K μ2 H2 (.fz xs) (.ref a)) rw2 data_stays fun μ2 H2 M2 hr2 z c => ?_
      simp only [Rp] at z
      obtain ⟨a', vs, e, h1, r1⟩ := z
      cases e
      exact ⟨vs, h1.sq, r1⟩
    | _ => exact p1.elim
/-- ints lo, lo + 1, .. -/
def rngD (lo : Int) (n : Nat) : List D := (List.range n).map fun k => D.int (lo + (k : Nat))
theorem rngD_get {lo : Int} {n i : Nat} {d : D} (h : (rngD lo n)[i]? = some d) : i < n ∧ d = .int (lo + i) := by
  unfold rngD at h
  rw [List.getElem?_map] at h
  by_cases hi : i < n
  · rw [List.getElem?_range hi] at h; simp at h; exact ⟨hi, h.symm⟩
  · rw [List.getElem?_eq_none (by simpa using hi)] at h; cases h
theorem itr_ok {lo : Int} {n : Nat} : ItOk K μ H ⟨rngD lo n, none⟩ (Itr lo n) := by
  refine ⟨fun _ _ => True, trivial, fun _ _ _ _ _ _ _ => trivial, fun μ1 H1 M1 i hr _ _ => ⟨fun d hd => ?_, fun hl => by simp only [rngD, List.length_map, List.length_range] at hl; exact hl⟩⟩
  obtain ⟨hi, rfl⟩ := rngD_get hd
  refine ⟨hi, fun x H2 y => ?_⟩
  obtain ⟨rfl, rfl⟩ := y
  exact ⟨.refl, hr, by simp [Rp]⟩
def in62 (i : Int) : Bool := decide (-4611686018427387904 ≤ i ∧ i < 4611686018427387904)
def iR1 (f : FE) : FI := fun L M => (f L M).bind fun w M1 => match w with
  | .d (.int j) => if in62 j = true then .ok ⟨rngD 0 j.toNat, none⟩ M1 else .bad
  | _ => .bad
def iR2 (f g : FE) : FI := fun L M => (f L M).bind fun w M1 => (g L M1).bind fun u M2 => match w, u with
  | .d (.int i), .d (.int j) => if in62 i = true ∧ in62 j = true then .ok ⟨rngD i (j - i).toNat, none⟩ M2 else .bad
  | _, _ => .bad
theorem ei_range1 {p : Pos} (hm : X.mg "range" = none) (ha : Ev X K Z a f) (hg : Gl X "range" := by rfl) (hs : starEach [a] X.env = [(false, eval a X.env)] := by rfl) : Ei X K Z tg (.Call (.Name "range" p) [a] [] pos) (iR1 f) := by
  refine ⟨ha.k, cqI (pi_range1 hg hm (pa_cons ha.h pa_nil hs) hs) ?_⟩
  rintro σ H R ⟨μ, M, L, hr, lr, p⟩
  refine ⟨μ, M, L, hr, lr, p.bind.imp fun μ1 H1 M1 w e1 hr1 _ p1 v rw' => ?_⟩
  cases w with
  | ref i => exact p1.elim
  | d x => cases x with
    | int j =>
      simp only at p1
      split at p1
      · rename_i hz
        simp only [in62, decide_eq_true_eq] at hz
        simp only [Rw, Rp] at rw'
        subst rw'
        exact ⟨j, rfl, hz.1, hz.2, p1 μ1 H1 .refl hr1 _ itr_ok⟩
      · exact p1.elim
    | _ => exact p1.elim
theorem ei_range2 {p : Pos} (hm : X.mg "range" = none) (ha : Ev X K Z a fa) (hb : Ev X K Z b fb) (hg : Gl X "range" := by rfl) (hs : starEach [a, b] X.env = [(false, eval a X.env), (false, eval b X.env)] := by rfl) (hs2 : starEach [b] X.env = [(false, eval b X.env)] := by rfl) :
    Ei X K Z tg (.Call (.Name "range" p) [a, b] [] pos) (iR2 fa fb) := by
  refine ⟨ha.k, cqI (pi_range2 hg hm (pa_cons ha.h (pa_cons hb.h pa_nil hs2) (by rw [hs, hs2])) hs hs2) ?_⟩
  rintro σ H R ⟨μ, M, L, hr, lr, p⟩
  refine ⟨μ, M, L, hr, lr, p.bind.imp fun μ1 H1 M1 w e1 hr1 _ p1 v rw' => ?_⟩
  refine ⟨μ1, M1, L, hr1, lr.ext hr.lsts e1, p1.bind.imp fun μ2 H2 M2 u e2 hr2 _ p2 v2 ru => ?_⟩
  have rw' := rw'.ext hr1.lsts e2
  cases w with
  | ref i => exact p2.elim
  | d x => cases x with
    | int i => cases u with
      | ref j => exact p2.elim
      | d y => cases y with
        | int j =>
          simp only at p2
          split at p2
          · rename_i hz
            simp only [in62, decide_eq_true_eq] at hz
            simp only [Rw, Rp] at rw' ru
            subst rw' ru
            exact ⟨i, j, rfl, ⟨hz.1.1, hz.1.2, hz.2.1, hz.2.2⟩, p2 μ2 H2 .refl hr2 _ itr_ok⟩
          · exact p2.elim
        | _ => exact p2.elim
    | _ => exact p2.elim
end
end EV

set_option Elab.async false
set_option linter.all false
set_option maxRecDepth 100000
set_option maxHeartbeats 4000000
namespace EV
open PySem PySem.Spec PyProof.Rows L2

section
variable {K : PySem.W.Frag} {μ μ1 μ2 : List Addr} {H H1 H2 : Hp} {M M2 : Mm}
theorem Ext.back (e : Ext μ H μ2 H2) : Ext μ H μ H2 := ⟨e.keep, fun a h => .inl h, fun _ _ h => h⟩
theorem Ext.take (e : Ext μ H μ2 H2) : μ2.take μ.length = μ := by
  apply List.ext_getElem?
  intro i
  rw [List.getElem?_take]
  split
  · rename_i hi
    have := e.pre i μ[i] (by simp [hi])
    rw [this]; simp [hi]
  · rename_i hi
    rw [List.getElem?_eq_none (by omega)]
mutual
theorem Rp.sub (hs : ∀ a, a ∈ μ1 → a ∈ μ) : ∀ (d : D) (v : V), Rp K μ H d v → Rp K μ1 H d v
  | .non, v, h => by simpa [Rp] using h
  | .bl b, v, h => by simpa [Rp] using h
  | .int b, v, h => by simpa [Rp] using h
  | .str b, v, h => by simpa [Rp] using h
  | .tup ds, v, h => by simp only [Rp] at h ⊢; obtain ⟨a, vs, e1, e2, e3⟩ := h; exact ⟨a, vs, e1, e2, Rps.sub hs ds vs e3⟩
  | .lst ds, v, h => by simp only [Rp] at h ⊢; obtain ⟨a, vs, e1, e2, n, e3⟩ := h; exact ⟨a, vs, e1, e2, fun z => n (hs a z), Rps.sub hs ds vs e3⟩
  | .fz ds, v, h => by simp only [Rp] at h ⊢; obtain ⟨a, vs, e1, e2, e3⟩ := h; exact ⟨a, vs, e1, e2, Rps.sub hs ds vs e3⟩
theorem Rps.sub (hs : ∀ a, a ∈ μ1 → a ∈ μ) : ∀ (ds : List D) (vs : List V), Rps K μ H ds vs → Rps K μ1 H ds vs
  | [], vs, h => by simpa [Rps] using h
  | d :: ds, vs, h => by simp only [Rps] at h ⊢; obtain ⟨v, r, e1, e2, e3⟩ := h; exact ⟨v, r, e1, Rp.sub hs d v e2, Rps.sub hs ds r e3⟩
end
theorem HR.back (h : HR K μ2 H2 M2) (e : Ext μ H μ2 H2) : HR K μ H2 (M2.take μ.length) := by
  have ht := e.take
  have hsub : ∀ a, a ∈ μ → a ∈ μ2 := fun a ha => by rw [← ht] at ha; exact List.mem_of_mem_take ha
  have hlen : μ.length ≤ μ2.length := by have := congrArg List.length ht; simp at this; omega
  refine ⟨by rw [List.length_take, ← h.len]; omega, by rw [← ht]; exact h.nd.sublist (List.take_sublist _ _), fun i a ds q1 q2 => ?_⟩
  rw [List.getElem?_take] at q2
  split at q2
  · obtain ⟨vs, q3, q4⟩ := h.ent i a ds (e.pre i a q1) q2
    exact ⟨vs, q3, Rps.sub hsub _ _ q4⟩
  · cases q2
end

/-! ### comprehensions -/
def outL (js : List (Option Nat)) (L : Lc) : Lc := js.map fun o => o.bind fun j => (L[j]?).join
open Classical in
noncomputable def compD (t : Nat) (s : Src) (g : FG) (c : FT) (f : FE) : List D → Lc → Mm → Oc Unit
  | [] => fun _ M => if Chk s M then .ok () M else .bad
  | d :: r => fun L M => if Chk s M then (g (.d d) L M).bind fun L1 M1 => (c L1 M1).bind fun b M2 => if b = true then (f L1 M2).bind fun w M3 => match w, M3[t]? with
      | .d x, some acc => if acc.length < 16777216 then compD t s g c f r L1 (M3.set t (acc ++ [x])) else .bad
      | _, _ => .bad
      else compD t s g c f r L1 M2
    else .bad
noncomputable def compT (js : List (Option Nat)) (fi : FI) (g : FG) (c : FT) (f : FE) (L : Lc) (M : Mm) : Oc (List D) := (fi L M).bind fun s M1 => match compD M1.length s g c f s.ds (outL js L) (M1 ++ [[]]) with
  | .ok _ M2 => match M2[M1.length]? with
    | some acc => .ok acc (M2.take M1.length)
    | none => .bad
  | _ => .bad
noncomputable def eComp (js : List (Option Nat)) (fi : FI) (g : FG) (c : FT) (f : FE) : FE := fun L M => (compT js fi g c f L M).bind fun acc M1 => .ok (.d (.lst acc)) M1
noncomputable def eCompR (js : List (Option Nat)) (fi : FI) (g : FG) (c : FT) (f : FE) : FE := fun L M => (fi L M).bind fun s M1 => match compD M1.length s g c f s.ds (outL js L) (M1 ++ [[]]) with
  | .ok _ M2 => .ok (.ref M1.length) (M2.take (M1.length + 1))
  | _ => .bad
def tYes : FT := fun _ M => .ok true M
structure Eif (X : Cx) (K : PySem.W.Frag) (Z : Zt) (ifs : List Expr) (t : FT) : Prop where
  k : X.K = K
  h : PIf X ifs (liftT K Z t)

section
variable {X : Cx} {K : PySem.W.Frag} {Z : Zt} {μ : List Addr} {H : Hp} {M : Mm} {e a b o : Expr} {es : List Expr} {pos : Pos} {f fa fb fo : FE} {fs : FA} {st : Stmt} {rest : List Stmt} {F G : FS}
theorem eif_nil (hk : X.K = K := by rfl) : Eif X K Z [] tYes := ⟨hk, fun pins s σ H Q I ⟨μ, M, L, hr, lr, p⟩ => pif_nil pins s σ H Q I (p μ H .refl hr)⟩
theorem eif_one {c : Expr} {t : FT} (h : Et X K Z c t) : Eif X K Z [c] t := ⟨h.k, pif_one h.h⟩
theorem LR.out {L : Lc} {σ : St} {js : List (Option Nat)} (h : LR K μ H L σ) : LR K μ H (outL js L) (outσ js σ) where
  len := by simp [outL, outσ]
  ent := fun i w q => by
    unfold outL at q
    unfold outσ
    rw [List.getElem?_map] at q ⊢
    cases e : js[i]? with
    | none => rw [e] at q; cases q
    | some oj =>
      rw [e] at q
      cases oj with
      | none => simp at q
      | some j =>
        simp only [Option.map_some, Option.bind_some, Option.some.injEq] at q ⊢
        cases e2 : L[j]? with
        | none => rw [e2] at q; cases q
        | some ow =>
          rw [e2] at q
          simp at q
          subst q
          obtain ⟨v, q1, q2⟩ := h.ent j w e2
          exact ⟨v, by rw [q1]; rfl, q2⟩
/-- the turns of a comprehension; Dt: its list, tracked while it grows -/
theorem turns_ok {s : Src} {g : FG} {c : FT} {f : FE} {J : It} {Dt : Addr} {Q : Hp → Prop} {σ : St} {L : Lc} (n : Nat) (μ0 : List Addr) (H0 : Hp) (e0 : Ext μ0 H0 μ H) (hn : μ0.length = n) (hD : μ[n]? = some Dt)
    (hr : HR K μ H M) (lr : LR K μ H L σ) (hJ : ItOk K μ H s J)
    (p : match compD n s g c f s.ds L M with
      | .ok _ M2 => ∀ μ2 H2, Ext μ H μ2 H2 → HR K μ2 H2 M2 → Q H2
      | _ => False) : tTurns J (liftG K Z0 g) (liftT K Z0 c) (lift K Z0 f) Dt σ H Q := by
  obtain ⟨S, s0, sx, step⟩ := hJ
  -- what holds at turn i
  let R : List Addr → Hp → Lc → Mm → List D → Prop := fun μ1 H1 L M rest => match compD n s g c f rest L M with
      | .ok _ M2 => ∀ μ2 H2, Ext μ1 H1 μ2 H2 → HR K μ2 H2 M2 → Q H2
      | _ => False
  refine ⟨fun i m σ H1 => m = s.ds.length - i ∧ i ≤ s.ds.length ∧ ∃ μ1 M L, Ext μ0 H0 μ1 H1 ∧ μ1[n]? = some Dt ∧ HR K μ1 H1 M ∧ LR K μ1 H1 L σ ∧ S μ1 H1 ∧ R μ1 H1 L M (s.ds.drop i), ⟨s.ds.length, by simp, Nat.zero_le _, μ, M, L, e0, hD, hr, lr, s0, by simpa [R] using p⟩, ?_⟩
  rintro i m σ H1 ⟨rfl, hi, μ1, M, L, e1, hD1, hr, lr, sS, p⟩
  by_cases hlt : i < s.ds.length
  · simp only [R] at p
    rw [List.drop_eq_getElem_cons hlt] at p
    unfold compD at p
    by_cases hch : Chk s M
    · rw [if_pos hch] at p
      obtain ⟨go, yl⟩ := (step μ1 H1 M i hr sS hch).1 s.ds[i] (by simp [hlt])
      refine .inr ⟨go, fun σ' H' => i + 1 ≤ s.ds.length ∧ ∃ μ1 M L, Ext μ0 H0 μ1 H' ∧ μ1[n]? = some Dt ∧ HR K μ1 H' M ∧ LR K μ1 H' L σ' ∧ S μ1 H' ∧ R μ1 H' L M (s.ds.drop (i + 1)), fun σ' H' q => ⟨s.ds.length - (i + 1), by omega, rfl, q.1, q.2⟩, fun x H2 y => ?_⟩
      obtain ⟨e2, hr2, rx⟩ := yl x H2 y
      have lr2 := lr.ext hr.lsts e2
      have s2 := sx _ _ _ _ hr.lsts sS e2
      refine ⟨μ1, M, L, .d s.ds[i], hr2, lr2, rx, ?_⟩
      cases q3 : g (.d s.ds[i]) L M with
      | bad => rw [q3] at p; exact p.elim
      | ex z M2 => rw [q3] at p; exact p.elim
      | ok L3 M3 =>
        rw [q3] at p
        intro μ3 H3 e3 hr3 σ3 lr3
        refine ⟨μ3, M3, L3, hr3, lr3, ?_⟩
        simp only [bind_ok] at p
        have s3 := sx _ _ _ _ hr2.lsts s2 e3
        cases q4 : c L3 M3 with
        | bad => rw [q4] at p; exact p.elim
        | ex z M2 => rw [q4] at p; exact p.elim
        | ok b M4 =>
          rw [q4] at p
          intro μ4 H4 e4 hr4
          simp only [bind_ok] at p
          have s4 := sx _ _ _ _ hr3.lsts s3 e4
          have lr4 := lr3.ext hr3.lsts e4
          have E4 := ((e1.trans e2).trans e3).trans e4
          have D4 := e4.pre _ _ (e3.pre _ _ (e2.pre _ _ hD1))
          cases b with
          | false =>
            refine ⟨hlt, μ4, M4, L3, E4, D4, hr4, lr4, s4, ?_⟩
            simp only [R]
            simp only [Bool.false_eq_true, if_false] at p
            cases q5 : compD n s g c f (s.ds.drop (i + 1)) L3 M4 with
            | ok u M5 => rw [q5] at p; exact fun μ5 H5 e5 hr5 => p μ5 H5 (((e2.trans e3).trans e4).trans e5) hr5
            | ex z M5 => rw [q5] at p; exact p
            | bad => rw [q5] at p; exact p
          | true =>
            simp only [if_true] at p
            refine ⟨μ4, M4, L3, hr4, lr4, ?_⟩
            cases q5 : f L3 M4 with
            | bad => rw [q5] at p; exact p.elim
            | ex z M2 => rw [q5] at p; exact p.elim
            | ok w M5 =>
              rw [q5] at p
              intro μ5 H5 e5 hr5 v rw'
              simp only [bind_ok] at p
              cases w with
              | ref k => exact p.elim
              | d x =>
                cases q6 : M5[n]? with
                | none => rw [q6] at p; exact p.elim
                | some acc =>
                  rw [q6] at p
                  simp only at p
                  by_cases hz : acc.length < 16777216
                  · rw [if_pos hz] at p
                    have D5 := e5.pre _ _ D4
                    obtain ⟨a', vs, qa', h1, r1⟩ := hr5.at q6
                    rw [D5] at qa'; cases qa'
                    refine ⟨vs, h1, by rw [← r1.length, sizeLine_eq]; exact hz, hlt, μ5, M5.set n (acc ++ [x]), L3, (E4.trans e5).trans (ext_set D5), D5, hr5.set D5 (r1.append (.cons rw' .nil)), ?_, ?_, ?_⟩
                    · exact (lr4.ext hr4.lsts e5).ext hr5.lsts (ext_set D5)
                    · exact sx _ _ _ _ hr5.lsts (sx _ _ _ _ hr4.lsts s4 e5) (ext_set D5)
                    · simp only [R]
                      cases q7 : compD n s g c f (s.ds.drop (i + 1)) L3 (M5.set n (acc ++ [x])) with
                      | ok u M6 => rw [q7] at p; exact fun μ6 H6 e6 hr6 => p μ6 H6 (((((e2.trans e3).trans e4).trans e5).trans (ext_set D5)).trans e6) hr6
                      | ex z M6 => rw [q7] at p; exact p
                      | bad => rw [q7] at p; exact p
                  · rw [if_neg hz] at p; exact p.elim
    · rw [if_neg hch] at p; exact p.elim
  · have e : i = s.ds.length := by omega
    subst e
    simp only [R] at p
    rw [List.drop_eq_nil_of_le (Nat.le_refl _)] at p
    unfold compD at p
    by_cases hch : Chk s M
    · rw [if_pos hch] at p
      exact .inl ⟨(step μ1 H1 M _ hr sS hch).2 (Nat.le_refl _), p μ1 H1 .refl hr⟩
    · rw [if_neg hch] at p; exact p.elim
theorem comp_ok1 {js : List (Option Nat)} {fi : FI} {g : FG} {c : FT} {f : FE} {σ : St} {Q : VK} (h : ∃ μ M L, HR K μ H M ∧ LR K μ H L σ ∧ Pst K Z μ H (compT js fi g c f L M) fun μ' H' M' acc => ∀ q vs, H' q = some (.lst vs) → q ∉ μ' → Rps K μ' H' acc vs → Q (.ref q) H') :
    tComp js (liftI K Z fi) (liftG K Z0 g) (liftT K Z0 c) (lift K Z0 f) σ H Q := by
  obtain ⟨μ, M, L, hr, lr, p⟩ := h
  refine ⟨μ, M, L, hr, lr, p.bind.imp fun μ1 H1 M1 s e1 hr1 _ p1 J hJ Dt hDt => ?_⟩
  have x := ext_new (vs := []) hr1 hDt
  have hlen := hr1.len
  obtain ⟨S, s0, sx, step⟩ := hJ
  refine turns_ok (M := M1 ++ [[]]) M1.length μ1 H1 x hr1.len (by rw [← hlen]; simp) (hr1.new hDt .nil) (LR.out ((lr.ext hr.lsts e1).ext hr1.lsts x)) ⟨S, sx _ _ _ _ hr1.lsts s0 x, sx, step⟩ ?_
  cases q : compD M1.length s g c f s.ds (outL js L) (M1 ++ [[]]) with
  | bad => simp only [q] at p1; exact p1.elim
  | ex z M2 => simp only [q] at p1; exact p1.elim
  | ok u M2 =>
    simp only [q] at p1
    intro μ2 H2 e2 hr2
    cases q2 : M2[M1.length]? with
    | none => simp only [q2] at p1; exact p1.elim
    | some acc =>
      simp only [q2] at p1
      have E := x.trans e2
      have hb := hr2.back E
      rw [hlen] at hb
      have hD2 : μ2[M1.length]? = some Dt := e2.pre _ _ (by rw [← hlen]; simp)
      obtain ⟨a', vs, qa', h1, r1⟩ := hr2.at q2
      rw [hD2] at qa'; cases qa'
      exact p1 μ1 H2 E.back hb Dt vs h1 (hr1.out hDt) (Rps.sub (fun a ha => by rw [← E.take] at ha; exact List.mem_of_mem_take ha) _ _ r1)
theorem comp_val {js : List (Option Nat)} {fi : FI} {g : FG} {c : FT} {f : FE} : ∀ σ H Q, lift K Z (eComp js fi g c f) σ H Q → tComp js (liftI K Z fi) (liftG K Z0 g) (liftT K Z0 c) (lift K Z0 f) σ H Q := by
  rintro σ H Q ⟨μ, M, L, hr, lr, p⟩
  refine comp_ok1 ⟨μ, M, L, hr, lr, p.bind.imp fun μ1 H1 M1 acc e1 hr1 _ p1 q vs h1 h2 h3 => ?_⟩
  exact p1 μ1 H1 .refl hr1 _ (by simp only [Rw, Rp]; exact ⟨q, vs, rfl, h1, h2, h3⟩)
theorem ev_comp {tg iter elt : Expr} {ifs : List Expr} {scope : Scope} {Nc : List Str} {js : List (Option Nat)} {fi : FI} {g : FG} {c : FT} {f : FE} (hc : X.calm = true) (T : CompOk X.N X.env.scope scope Nc js) (hit : Ei X K Z tg iter fi)
    (hg : ∀ cl C fp pins s₂ H₂, Eg (compCx X Nc scope cl C fp pins s₂ H₂) K Z0 tg g) (hi : ∀ cl C fp pins s₂ H₂, Eif (compCx X Nc scope cl C fp pins s₂ H₂) K Z0 ifs c) (he : ∀ cl C fp pins s₂ H₂, Ev (compCx X Nc scope cl C fp pins s₂ H₂) K Z0 elt f)
    (hs : ∀ x, foldedSetIterable iter X.env x = pure x := by intro _; rfl) : Ev X K Z (.ListComp elt [⟨tg, iter, ifs, 0⟩] scope pos) (eComp js fi g c f) :=
  ⟨hit.k, cqE (pe_comp hc T hit.h (fun _ _ _ _ _ _ => (hg _ _ _ _ _ _).h) (fun _ _ _ _ _ _ => (hi _ _ _ _ _ _).h) (fun _ _ _ _ _ _ => (he _ _ _ _ _ _).h) hs) comp_val⟩
/-- x = [..], x a local name -/
theorem es_comp {tg iter elt : Expr} {ifs : List Expr} {scope : Scope} {Nc : List Str} {js : List (Option Nat)} {fi : FI} {g : FG} {c : FT} {f : FE} {i : Nat} {y : Str} {py spos : Pos} (hN : X.N.Nodup) (hc : X.calm = true) (T : CompOk X.N X.env.scope scope Nc js) (hit : Ei X K Z tg iter fi)
    (hg : ∀ cl C fp pins s₂ H₂, Eg (compCx X Nc scope cl C fp pins s₂ H₂) K Z0 tg g) (hi : ∀ cl C fp pins s₂ H₂, Eif (compCx X Nc scope cl C fp pins s₂ H₂) K Z0 ifs c) (he : ∀ cl C fp pins s₂ H₂, Ev (compCx X Nc scope cl C fp pins s₂ H₂) K Z0 elt f)
    (hyi : X.N[i]? = some y := by rfl) (hy : X.env.scope.names.lookup y = some .local := by rfl)
    (hsw : swapsWith (.ListComp elt [⟨tg, iter, ifs, 0⟩] scope pos) (some (.Name y py)) spos.line X.env = pure true := by rfl)
    (hs : ∀ x, foldedSetIterable iter X.env x = pure x := by intro _; rfl) : Es X K Z (.Assign [.Name y py] (.ListComp elt [⟨tg, iter, ifs, 0⟩] scope pos) spos) (sAs (eComp js fi g c f) (gN i)) := by
  refine ⟨hit.k, cqS (ps_comp hN hyi hy hc T hit.h (fun _ _ _ _ _ _ => (hg _ _ _ _ _ _).h) (fun _ _ _ _ _ _ => (hi _ _ _ _ _ _).h) (fun _ _ _ _ _ _ => (he _ _ _ _ _ _).h) hsw hs) ?_⟩
  rintro E σ H ⟨μ, M, L, hr, lr, p⟩
  refine comp_val _ _ _ ⟨μ, M, L, hr, lr, p.bind.imp fun μ1 H1 M1 x e1 hr1 _ p1 v rx => ?_⟩
  exact p1 μ1 H1 .refl hr1 _ (LR.set (lr.ext hr.lsts e1) rx)
/-! ### defs -/
def retc (n : Nat) (w : W) (M : Mm) : Oc W := match w with
  | .d x => .ok (.d x) (M.take n)
  | .ref i => if i < n then .ok (.ref i) (M.take n) else match M[i]? with
    | some ds => .ok (.d (.lst ds)) (M.take n)
    | none => .bad
/-- a def's meaning: its parameters, its names, its body -/
def fnD (m n : Nat) (F : FS) : Fn := fun ws M => if ws.length = m then (F (ws.map some ++ List.replicate (n - ws.length) none) M).bind fun o M' => match o with
    | .rt w => retc M.length w M'
    | .nx _ => .ok (.d .non) (M'.take M.length)
    | _ => .bad
  else .bad
/-- .. of a def that tells a new list that may be changed -/
def fnR (m n : Nat) (F : FS) : Fn := fun ws M => if ws.length = m then (F (ws.map some ++ List.replicate (n - ws.length) none) M).bind fun o M' => match o with
    | .rt (.ref i) => if M.length ≤ i then (match M'[i]? with
      | some ds => .ok (.ref M.length) (M'.take M.length ++ [ds])
      | none => .bad) else .bad
    | _ => .bad
  else .bad
def spF (K : PySem.W.Frag) (Z : Zt) (m : Nat) (Fm : Fn) : Sp := fun vs H Q E => vs.length = m ∧ ∃ μ M ws, HR K μ H M ∧ Rws K μ H ws vs ∧ Pst K Z μ H (Fm ws M) (Wk K Q)
theorem lr_start {N : List Str} {ws : List W} {vs : List V} (r : Rws K μ H ws vs) : LR K μ H (ws.map some ++ List.replicate (N.length - ws.length) none) (L2.start N vs) := by
  have hl := r.length
  refine ⟨by simp [L2.start, hl], fun i w q => ?_⟩
  by_cases hi : i < ws.length
  · rw [List.getElem?_append_left (by simpa using hi), List.getElem?_map] at q
    cases e : ws[i]? with
    | none => rw [e] at q; cases q
    | some w' =>
      rw [e] at q; cases q
      obtain ⟨v, q1, q2⟩ := r.get e
      refine ⟨v, ?_, q2⟩
      unfold L2.start
      rw [List.getElem?_append_left (by simp; omega), List.getElem?_map, q1]; rfl
  · rw [List.getElem?_append_right (by simpa using hi), List.getElem?_replicate] at q
    split at q <;> cases q
theorem fn_ok {P : Program} {w : World} {mg : Str → Option Value} {base : Heap} {x qual : Str} {st : Stmt} {fa : Addr} {fd : FuncData} {N ps : List Str} {k : Nat} {F : FS} (hf : Fun K x qual st fa fd) (S : FnScope N ps (defScope st))
    (hb : ∀ (cdv : Value) (A : Around) (outer : List Env) (s : Shared) (H : Hp) (E : XK), Room k (A.deeper (envOfC qual (defScope st) s.heap.objs.size fa cdv)) → Ess (cxOf CX0 P w K mg base N qual (defScope st) fa cdv A outer s H E).nox K Z0 (defBody st) F) :
    FnOk P w K mg base CX0 (k + 1) fa fd ps (spF K Z0 ps.length (fnD ps.length N.length F)) := by
  refine hf.ok S (fun vs H Q E h => h.1) fun cdv A outer s H vs Q E hr hsp => ⟨_, (hb cdv A outer s H E hr).h, ?_⟩
  obtain ⟨hv, μ, M, ws, hr, rx, p⟩ := hsp
  refine ⟨μ, M, _, hr, lr_start rx, ?_⟩
  unfold fnD at p
  rw [if_pos (by rw [rx.length]; exact hv)] at p
  cases q : F (ws.map some ++ List.replicate (N.length - ws.length) none) M with
  | bad => rw [q] at p; exact p
  | ex z M' => rw [q] at p; exact p
  | ok o M' =>
    rw [q] at p
    simp only [bind_ok] at p
    intro μ1 H1 e1 hr1
    have hb := hr1.back e1
    rw [hr.len] at hb
    cases o with
    | nx L' => exact fun σ' lr' => p μ H1 e1.back hb _ (by simp [Rw, Rp])
    | bk L' => exact p.elim
    | ct L' => exact p.elim
    | rt w =>
      intro v rv
      have hsub : ∀ a, a ∈ μ → a ∈ μ1 := fun a ha => by rw [← e1.take] at ha; exact List.mem_of_mem_take ha
      cases w with
      | d x => exact p μ H1 e1.back hb v (Rp.sub hsub x v rv)
      | ref i =>
        simp only [retc] at p
        split at p
        · rename_i hi
          obtain ⟨a, qa, rfl⟩ := rv
          refine p μ H1 e1.back hb _ ⟨a, ?_, rfl⟩
          rw [← hr.len] at hi
          have := e1.pre i μ[i] (by simp [hi])
          rw [qa] at this; cases this
          simp [hi]
        · rename_i hi
          cases q2 : M'[i]? with
          | none => simp only [q2] at p; exact p.elim
          | some ds =>
            simp only [q2] at p
            obtain ⟨a, qa, rfl⟩ := rv
            obtain ⟨a', vs', qa', h1, r1⟩ := hr1.at q2
            rw [qa] at qa'; cases qa'
            refine p μ H1 e1.back hb _ ?_
            simp only [Rw, Rp]
            refine ⟨a, vs', rfl, h1, fun ha => ?_, Rps.sub hsub _ _ r1⟩
            obtain ⟨j, hj, ej⟩ := List.mem_iff_getElem.mp ha
            have h2 := e1.pre j a (by rw [← ej]; simp [hj])
            have l1 := (List.getElem?_eq_some_iff.mp qa).1
            have l2 := (List.getElem?_eq_some_iff.mp h2).1
            have g1 := (List.getElem?_eq_some_iff.mp qa).2
            have g2 := (List.getElem?_eq_some_iff.mp h2).2
            have pw := List.pairwise_iff_getElem.mp hr1.nd
            rw [hr.len] at hj
            exact pw j i l2 l1 (by omega) (g2.trans g1.symm)
theorem fn_okR {P : Program} {w : World} {mg : Str → Option Value} {base : Heap} {x qual : Str} {st : Stmt} {fa : Addr} {fd : FuncData} {N ps : List Str} {k : Nat} {F : FS} (hf : Fun K x qual st fa fd) (S : FnScope N ps (defScope st))
    (hb : ∀ (cdv : Value) (A : Around) (outer : List Env) (s : Shared) (H : Hp) (E : XK), Room k (A.deeper (envOfC qual (defScope st) s.heap.objs.size fa cdv)) → Ess (cxOf CX0 P w K mg base N qual (defScope st) fa cdv A outer s H E).nox K Z0 (defBody st) F) :
    FnOk P w K mg base CX0 (k + 1) fa fd ps (spF K Z0 ps.length (fnR ps.length N.length F)) := by
  refine hf.ok S (fun vs H Q E h => h.1) fun cdv A outer s H vs Q E hr hsp => ⟨_, (hb cdv A outer s H E hr).h, ?_⟩
  obtain ⟨hv, μ, M, ws, hr, rx, p⟩ := hsp
  refine ⟨μ, M, _, hr, lr_start rx, ?_⟩
  unfold fnR at p
  rw [if_pos (by rw [rx.length]; exact hv)] at p
  cases q : F (ws.map some ++ List.replicate (N.length - ws.length) none) M with
  | bad => rw [q] at p; exact p
  | ex z M' => rw [q] at p; exact p
  | ok o M' =>
    rw [q] at p
    simp only [bind_ok] at p
    intro μ1 H1 e1 hr1
    have hb := hr1.back e1
    rw [hr.len] at hb
    cases o with
    | nx L' => exact p.elim
    | bk L' => exact p.elim
    | ct L' => exact p.elim
    | rt w =>
      intro v rv
      have hsub : ∀ a, a ∈ μ → a ∈ μ1 := fun a ha => by rw [← e1.take] at ha; exact List.mem_of_mem_take ha
      cases w with
      | d x => exact p.elim
      | ref i =>
        simp only at p
        split at p
        · rename_i hi
          cases q2 : M'[i]? with
          | none => simp only [q2] at p; exact p.elim
          | some ds =>
            simp only [q2] at p
            obtain ⟨a, qa, rfl⟩ := rv
            obtain ⟨a', vs', qa', h1, r1⟩ := hr1.at q2
            rw [qa] at qa'; cases qa'
            have hna : a ∉ μ := fun ha => by
              obtain ⟨j, hj, ej⟩ := List.mem_iff_getElem.mp ha
              have h2 := e1.pre j a (by rw [← ej]; simp [hj])
              have l1 := (List.getElem?_eq_some_iff.mp qa).1
              have l2 := (List.getElem?_eq_some_iff.mp h2).1
              have g1 := (List.getElem?_eq_some_iff.mp qa).2
              have g2 := (List.getElem?_eq_some_iff.mp h2).2
              have pw := List.pairwise_iff_getElem.mp hr1.nd
              rw [hr.len] at hj
              exact pw j i l2 l1 (by omega) (g2.trans g1.symm)
            have hsub2 : ∀ b, b ∈ μ ++ [a] → b ∈ μ1 := fun b hb => by
              rcases List.mem_append.mp hb with hb | hb
              · exact hsub b hb
              · rw [List.mem_singleton] at hb; subst hb; exact List.mem_of_getElem? qa
            refine p (μ ++ [a]) H1 ⟨e1.keep, fun b hb => e1.new b (hsub2 b hb), fun j b hj => by rw [List.getElem?_append_left (List.getElem?_eq_some_iff.mp hj).1]; exact hj⟩ ?_ _ ⟨a, by rw [← hr.len]; simp, rfl⟩
            refine ⟨by simp [hb.len], List.nodup_append.mpr ⟨hb.nd, by simp, fun b hb' c hc => by rw [List.mem_singleton] at hc; subst hc; rintro rfl; exact hna hb'⟩, fun j b es q1 q3 => ?_⟩
            by_cases hj : j < μ.length
            · rw [List.getElem?_append_left hj] at q1
              rw [List.getElem?_append_left (by rw [← hb.len]; exact hj), List.getElem?_take] at q3
              split at q3
              · obtain ⟨us, q4, q5⟩ := hr1.ent j b es (e1.pre j b q1) q3
                exact ⟨us, q4, Rps.sub hsub2 _ _ q5⟩
              · cases q3
            · have hj' : j = μ.length := by have := (List.getElem?_eq_some_iff.mp q1).1; simp at this; omega
              subst hj'
              rw [List.getElem?_append_right (Nat.le_refl _)] at q1
              rw [hb.len, List.getElem?_append_right (Nat.le_refl _)] at q3
              simp at q1 q3
              subst q1 q3
              exact ⟨vs', h1, Rps.sub hsub2 _ _ r1⟩
        · exact p.elim
/-- f(..), f a def of the text that raises nothing -/
theorem ev_call {k : Nat} {fd : FuncData} {fa : Addr} {ps : List Str} {m : Nat} {Fm : Fn} {x : Str} {p : Pos} (Gf : FnOk X.prog X.w X.K X.mg X.base CX0 k fa fd ps (spF K Z0 m Fm)) (hr : Room k X.A) (hm : X.mg x = some (.ref fa)) (hk : PySem.W.keepIn X.K (.ref fa) = true) (hb : Binds X.K fd ps [])
    (ha : Ea X K Z0 (e :: es) fs) (hl : ps.length = m := by rfl) (hg : Gl X x := by rfl) (hdb : (x == ("__debug__" : Str)) = false := by decide) (he : starEach (e :: es) X.env = (false, eval e X.env) :: starEach es X.env := by rfl) (hpl : (backTo pos (starEach es X.env)).any (·.1) = false := by rfl)
    (hlen : ∀ ws M, ws.length ≠ m → Fm ws M = .bad := by intro ws M h; first | exact if_neg h | rfl) : Ev X K Z0 (.Call (.Name x p) (e :: es) [] pos) (eA Fm fs) := by
  refine ⟨ha.k, cqE (pe_call Gf hr hg hm hk hb .nil pass0 ha.h hdb he hpl) ?_⟩
  rintro σ H Q ⟨μ, M, L, hr, lr, p⟩
  refine ⟨μ, M, L, hr, lr, p.bind.imp fun μ1 H1 M1 ws e1 hr1 _ p1 vs rx => ?_⟩
  show spF K Z0 m Fm (vs ++ []) H1 Q E0
  rw [List.append_nil]
  refine ⟨?_, μ1, M1, ws, hr1, rx, p1⟩
  by_cases hw : ws.length = m
  · rw [← rx.length]; exact hw
  · rw [hlen ws M1 hw] at p1; exact p1.elim
/-- the law's promise at a script -/
theorem law_sp {K : PySem.W.Frag} {Fm : Fn} {H : Hp} {a : Addr} {ns : List Int} (hO : Only H) (hS : SqL K H a (ns.map V.int)) (h : ∃ M', Fm [.d (.fz (ns.map D.int))] [] = .ok (.d (.bl true)) M') : spF K Z0 1 Fm [.ref a] H (fun v _ => v = .bl true) fun _ _ _ => False := by
  obtain ⟨M', h⟩ := h
  refine ⟨rfl, [], [], [.d (.fz (ns.map D.int))], ⟨rfl, List.nodup_nil, fun i a ds q => by simp at q⟩, ⟨.ref a, [], rfl, ?_, rfl⟩, ?_⟩
  · simp only [Rw, Rp]
    refine ⟨a, ns.map V.int, rfl, ?_, Rps.ints⟩
    rcases hS with (z | z) | z
    · rcases hO a with q | ⟨o, xs, q⟩ <;> rw [z] at q <;> cases q
    · exact .inl z
    · exact .inr z
  · rw [h]
    intro μ' H' _ _ v rv
    simpa only [Rw, Rp] using rv
end
end EV

set_option Elab.async false
set_option linter.all false
set_option maxRecDepth 100000
set_option maxHeartbeats 4000000
namespace EV
open PySem PySem.Spec PyProof.Rows L2
/-- how often a while may turn -/
@[irreducible] def NW : Nat := 18446744073709551616
theorem NW_eq : NW = 18446744073709551616 := by unfold NW; rfl
theorem hu_room {k : Nat} {A : Around} (hr : Room k A) : A.units + 101 < cLine := by have := hr.un; omega
theorem fn_bad {P : Program} {w : World} {K : PySem.W.Frag} {mg : Str → Option Value} {base : Heap} {CX : CXT} {k m : Nat} {Z : Zt} {f : Addr} {fd : FuncData} {ps : List Str} (hl : ps.length = m) : FnOk P w K mg base CX k f fd ps (spF K Z m (fun _ _ => .bad)) :=
  ⟨fun vs H Q E h => by rw [h.1, hl], fun A outer s H args us vs Q E _ _ _ _ h => by obtain ⟨_, μ, M, ws, _, _, p⟩ := h; exact p.elim⟩
section
variable {X : Cx} {K : PySem.W.Frag} {Z : Zt} {μ : List Addr} {H : Hp} {M : Mm} {e a b o tg : Expr} {es : List Expr} {pos : Pos} {f fa fb fo : FE} {fs : FA} {st : Stmt} {rest : List Stmt} {F G : FS}
/-- list + list, to be changed -/
def pAddR (x y : W) (M : Mm) : Oc W := match lv M x, lv M y with
  | some xs, some ys => if xs.length + ys.length ≤ 16777216 then .ok (.ref M.length) (M ++ [xs ++ ys]) else .bad
  | _, _ => .bad
/-- a slice of a list, to be changed -/
def pSlR (x : W) (lo hi : Option Int) (M : Mm) : Oc W := match lr M x with
    | some xs => .ok (.ref M.length) (M ++ [cut xs lo hi])
    | none => .bad
def eSlR (f : FE) (fl fh : FO) : FE := fun L M => (f L M).bind fun x M1 => (fl L M1).bind fun lo M2 => (fh L M2).bind fun hi M3 => pSlR x lo hi M3
/-- all([..]) where all of them hold -/
def isTr : D → Bool
  | .bl true => true
  | _ => false
def cAll (ws : List W) (M : Mm) : Oc W := match ws with
  | [w] => match lr M w with
    | some xs => if xs.all isTr = true then .ok (.d (.bl true)) M else .bad
    | none => .bad
  | _ => .bad
end
end EV

set_option Elab.async false
set_option linter.all false
set_option maxRecDepth 100000
set_option maxHeartbeats 4000000
namespace ZP
open PySem PySem.Spec PyProof.Rows
section
variable {prog : Program} {w : World} {A : Around} {E : Value → Shared → Prop} {s : Shared}
theorem nextOf_tuple_item {it l : Addr} {i : Nat} {items : Array Value} {x : Value} {Q : Value → Shared → Prop} (hit : s.heap.IsTupleIter it l i)
    (hl : s.heap.IsTuple l items) (hx : items[i]? = some x)
    (hQ : ∀ h', h'.IsTupleIter it l (i + 1) → Heap.SameBut it s.heap h' → Q x { s with heap := h' }) :
    wpAny (model prog w) A (Builtin.SmallTypes.nextOf (.ref it)) Q E s := by
  obtain ⟨o, ho, hc, hd⟩ := id hit
  obtain ⟨ol, hol, _, nl, hdl⟩ := hl
  unfold Builtin.SmallTypes.nextOf
  refine wpAny_bind (wpAny_callSpecial?_slot (name := Str.ofString "__next__") hit.typeIs F.slot_tuple_iterator_next
    (wpAny_call_entry F.slot_tuple_iterator_next hit.typeIs F.entry_tuple_iterator_next ?_ (F.args_tuple_iterator_next_1 _)))
  show wpAny _ _ (field (.ref it) 0 >>= _) _ _ s
  refine wpAny_bind (wpAny_field ho hd (x := .ref l) rfl ?_)
  show wpAny _ _ (if (Value.ref l == Value.none) = true then _ else _) _ _ s
  rw [if_neg (show ¬ ((Value.ref l == Value.none) = true) from Bool.false_ne_true)]
  show wpAny _ _ (field (.ref it) 1 >>= _) _ _ s
  refine wpAny_bind (wpAny_field ho hd (x := .int i 0) rfl ?_)
  show wpAny _ _ (seqItems? (.ref l) >>= _) _ _ s
  refine wpAny_bind (wpAny_seqItems hol hdl ?_)
  simp only [Int.toNat_natCast, hx]
  refine wpAny_bind (wpAny_setField ho hd (by simp) (wpAny_pure ⟨x, rfl, wpAny_pure (hQ _ ?_ (Heap.SameBut.update ..))⟩))
  exact ⟨_, Heap.get?_update_self _ ho (Obj.isFreed_of_fields (Obj.data_mapFields hd _)), (Obj.cls_mapFields ..).trans hc, by
    rw [Obj.data_mapFields hd]; simp [rawInt]⟩
theorem nextOf_tuple_end {it l : Addr} {i : Nat} {items : Array Value} {Q : Value → Shared → Prop} (hh : A.handled = none)
    (hit : s.heap.IsTupleIter it l i) (hl : s.heap.IsTuple l items) (hx : items[i]? = none)
    (hE : ∀ h' e, Heap.ExtBut it s.heap h' → (∃ o, h'.get? e = some o ∧ o.cls = .type "StopIteration") → E (.ref e) { s with heap := h' }) :
    wpAny (model prog w) A (Builtin.SmallTypes.nextOf (.ref it)) Q E s := by
  obtain ⟨o, ho, hc, hd⟩ := id hit
  obtain ⟨ol, hol, _, nl, hdl⟩ := hl
  unfold Builtin.SmallTypes.nextOf
  refine wpAny_bind (wpAny_callSpecial?_slot (name := Str.ofString "__next__") hit.typeIs F.slot_tuple_iterator_next
    (wpAny_call_entry F.slot_tuple_iterator_next hit.typeIs F.entry_tuple_iterator_next ?_ (F.args_tuple_iterator_next_1 _)))
  show wpAny _ _ (field (.ref it) 0 >>= _) _ _ s
  refine wpAny_bind (wpAny_field ho hd (x := .ref l) rfl ?_)
  show wpAny _ _ (if (Value.ref l == Value.none) = true then _ else _) _ _ s
  rw [if_neg (show ¬ ((Value.ref l == Value.none) = true) from Bool.false_ne_true)]
  show wpAny _ _ (field (.ref it) 1 >>= _) _ _ s
  refine wpAny_bind (wpAny_field ho hd (x := .int i 0) rfl ?_)
  show wpAny _ _ (seqItems? (.ref l) >>= _) _ _ s
  refine wpAny_bind (wpAny_seqItems hol hdl ?_)
  simp only [Int.toNat_natCast, hx]
  refine wpAny_bind (wpAny_rule (wpAny_bind (wpAny_setField ho hd (by simp) ?_)))
  show wpAny _ _ (newExc (.type "StopIteration") [] >>= _) _ _ _
  refine wpAny_bind ?_
  simp only [newExc, newTuple]
  refine wpAny_bind (wpAny_newObj_type ?_ (by size_fits))
  refine wpAny_bind (m := firstArgMember _ _) (wpAny_of_eq (a := Value.none) (by first | rfl | (simp only [firstArgMember]; rfl)) ?_)
  refine wpAny_newObj_type ?_ (by size_fits)
  simp only [raiseNew]
  refine wpAny_bind (wpAny_handled ?_)
  first | rw [show A.in1.handled = none from hh] | rw [hh]
  refine wpAny_bind (wpAny_pure (wpAny_throw ?_))
  exact hE _ _ (((Heap.SameBut.update ..).extBut.push _).push _) ⟨_, Heap.get?_push_size _ rfl, rfl⟩
/-- an iterator of a list or a tuple, i items done -/
def It1 (h : Heap) (it src : Addr) (i : Nat) (xs : Array Value) : Prop := (h.IsListIter it src i ∧ h.IsList src xs) ∨ (h.IsTupleIter it src i ∧ h.IsTuple src xs)
theorem It1.at {h h' : Heap} {it src : Addr} {i : Nat} {xs : Array Value} (x : It1 h it src i xs) (k1 : ∀ o, h.get? it = some o → h'.get? it = some o) (k2 : ∀ o, h.get? src = some o → h'.get? src = some o) : It1 h' it src i xs := by
  rcases x with ⟨a, b⟩ | ⟨a, b⟩
  · exact .inl ⟨a.at k1, b.at k2⟩
  · refine .inr ⟨a.at k1, ?_⟩
    obtain ⟨o, ho, r⟩ := b
    exact ⟨o, k2 o ho, r⟩
theorem It1.lt {h : Heap} {it src : Addr} {i : Nat} {xs : Array Value} (x : It1 h it src i xs) : it < h.objs.size := by
  rcases x with ⟨⟨_, e, _⟩, _⟩ | ⟨⟨_, e, _⟩, _⟩ <;> exact Heap.lt_size e
theorem It1.ne {h : Heap} {it src : Addr} {i : Nat} {xs : Array Value} (x : It1 h it src i xs) : src ≠ it := by
  rintro rfl
  rcases x with ⟨⟨o, e, c, _⟩, ⟨o', e', c', _⟩⟩ | ⟨⟨o, e, c, _⟩, ⟨o', e', c', _⟩⟩ <;> (rw [e] at e'; cases e'; rw [c] at c'; simp at c')
theorem It1.next {it src : Addr} {i : Nat} {xs : Array Value} {x : Value} {Q : Value → Shared → Prop} (h : It1 s.heap it src i xs) (hx : xs[i]? = some x) (hQ : ∀ h', It1 h' it src (i + 1) xs → Heap.SameBut it s.heap h' → Q x { s with heap := h' }) :
    wpAny (model prog w) A (Builtin.SmallTypes.nextOf (.ref it)) Q E s := by
  have hn := h.ne
  rcases h with ⟨a, b⟩ | ⟨a, b⟩
  · exact wpAny_nextOf_list_item a b hx fun h' a' sb => hQ h' (.inl ⟨a', b.extBut sb.extBut hn⟩) sb
  · exact nextOf_tuple_item a b hx fun h' a' sb => hQ h' (.inr ⟨a', b.extBut sb.extBut hn⟩) sb
theorem It1.stop {it src : Addr} {i : Nat} {xs : Array Value} {Q : Value → Shared → Prop} (hh : A.handled = none) (h : It1 s.heap it src i xs) (hx : xs[i]? = none)
    (hE : ∀ h' e, Heap.ExtBut it s.heap h' → (∃ o, h'.get? e = some o ∧ o.cls = .type "StopIteration") → E (.ref e) { s with heap := h' }) : wpAny (model prog w) A (Builtin.SmallTypes.nextOf (.ref it)) Q E s := by
  rcases h with ⟨a, b⟩ | ⟨a, b⟩
  · exact wpAny_nextOf_list_end hh a b hx hE
  · exact nextOf_tuple_end hh a b hx hE
theorem loadAlive {a : Addr} {Q : Option Obj → Shared → Prop} (h : Q (s.heap.get? a) s) : wpAny (model prog w) A (loadIfAlive a) Q E s := by
  intro Γ p hΓ
  show Sem.wp _ _ (Sem.loadIfAlive a _) _ _ _ _
  rw [Sem.wp_loadIfAlive]
  simpa using h
abbrev zobj (TI TO : Addr) (f0 f1 : Value) : Obj := { cls := .type "zip", dict := none, data := .fields #[f0, f1, .bool false, .ref TI, .ref TO], slots := #[] }
structure Ap (z TI TO i1 i2 l1 l2 : Addr) : Prop where
  TIz : TI ≠ z
  TOz : TO ≠ z
  i1z : i1 ≠ z
  i2z : i2 ≠ z
  TITO : TI ≠ TO
  TIi1 : TI ≠ i1
  TIi2 : TI ≠ i2
  TOi1 : TO ≠ i1
  TOi2 : TO ≠ i2
  i12 : i1 ≠ i2
  l1z : l1 ≠ z
  l1TO : l1 ≠ TO
  l1i1 : l1 ≠ i1
  l1i2 : l1 ≠ i2
  l2z : l2 ≠ z
  l2TO : l2 ≠ TO
  l2i1 : l2 ≠ i1
  l2i2 : l2 ≠ i2
/-- the zip's state -/
structure Zs (h : Heap) (z TI TO i1 i2 l1 l2 : Addr) (i : Nat) (xs ys : Array Value) : Prop where
  z : ∃ f0 f1, h.get? z = some (zobj TI TO f0 f1) ∧ (f0 = .none ∨ ∃ T : Nat, f0 = rawInt T)
  ti : IsPair h TI (.ref i1) (.ref i2)
  to : ∃ a b, IsPair h TO a b
  a : It1 h i1 l1 i xs
  b : It1 h i2 l2 i ys
theorem free_or {z TI TO : Addr} {f0 f1 : Value} {Q : Bool → Shared → Prop} (hz : s.heap.get? z = some (zobj TI TO f0 f1)) (hf : f0 = .none ∨ ∃ T : Nat, f0 = rawInt T) (h1 : Q true s) (h2 : ∀ h' f1', h'.get? z = some (zobj TI TO f0 f1') → Heap.SameBut z s.heap h' → Q false { s with heap := h' }) :
    wpAny (model prog w) A (Builtin.SmallTypes.ownedTupleIsFree (.ref z)) Q E s := by
  unfold Builtin.SmallTypes.ownedTupleIsFree
  refine wpAny_bind (wpAny_field hz rfl (x := f0) rfl ?_)
  rcases hf with rfl | ⟨T, rfl⟩
  · exact wpAny_pure h1
  · show wpAny _ _ (loadIfAlive _ >>= _) _ _ _
    refine wpAny_bind (loadAlive ?_)
    cases q : s.heap.get? ((T : Int).toNat) with
    | none => exact wpAny_pure h1
    | some o =>
      show wpAny _ _ (field (.ref z) 1 >>= _) _ _ _
      refine wpAny_bind (wpAny_field hz rfl (x := f1) rfl ?_)
      by_cases hb : (f1 != .bool true) = true
      · rw [if_pos hb]
        refine wpAny_bind (wpAny_setField_rec hz (by simp) fun h1 hz1 hs1 => wpAny_pure (h2 h1 _ hz1 hs1))
      · rw [if_neg hb]
        exact wpAny_pure (h2 s.heap f1 hz ⟨rfl, fun _ _ => rfl⟩)
theorem zip_next_item {z TI TO i1 i2 l1 l2 : Addr} {k : Nat} {xs ys : Array Value} {x y : Value} {Q : Value → Shared → Prop} (D : Ap z TI TO i1 i2 l1 l2) (Z : Zs s.heap z TI TO i1 i2 l1 l2 k xs ys) (hx : xs[k]? = some x) (hy : ys[k]? = some y)
    (hQ : ∀ h' T, Zs h' z TI TO i1 i2 l1 l2 (k + 1) xs ys → IsPair h' T x y → s.heap.objs.size ≤ T → (∀ c o, c ≠ z → c ≠ TO → c ≠ i1 → c ≠ i2 → s.heap.get? c = some o → h'.get? c = some o) → Q (.ref T) { s with heap := h' }) :
    wpAny (model prog w) A (Builtin.«zip.__next__» ⟨[.ref z], []⟩) (fun fin s' => ∃ v, fin = .done (.ret v) ∧ Q v s') E s := by
  obtain ⟨⟨f0, f1, hz, hf⟩, hTI, ⟨a, b, hTO⟩, h1, h2⟩ := Z
  show wpAny _ _ (field (.ref z) 2 >>= _) _ _ _
  refine wpAny_bind (wpAny_field hz rfl (x := .bool false) rfl ?_)
  show wpAny _ _ (field (.ref z) 3 >>= _) _ _ _
  refine wpAny_bind (wpAny_field hz rfl (x := .ref TI) rfl ?_)
  refine wpAny_bind (wpAny_seqItems hTI rfl ?_)
  show wpAny _ _ (Builtin.SmallTypes.ownedTupleIsFree (.ref z) >>= _) _ _ _
  refine wpAny_bind (free_or hz hf ?_ fun h₁ f1' hz₁ hs₁ => ?_)
  · simp only [if_true]
    refine wpAny_bind (wpAny_rule ?_)
    refine wpAny_bind (wpAny_field hz rfl (x := .ref TO) rfl ?_)
    refine wpAny_bind (wpAny_setField_rec hz (by simp) fun h₁ hz₁ hs₁ => ?_)
    replace hz₁ : h₁.get? z = some (zobj TI TO .ellipsis f1) := hz₁
    refine wpAny_bind ?_
    simp only [List.zipIdx_cons, List.zipIdx_nil, List.forIn_cons, List.forIn_nil]
    refine wpAny_bind (wpAny_bind (wpAny_onRaise ?_))
    show wpAny _ _ (Builtin.SmallTypes.nextOf (.ref i1) >>= _) _ _ _
    refine wpAny_bind (It1.next (h1.at (fun o e => hs₁.extBut _ _ D.i1z e) fun o e => hs₁.extBut _ _ D.l1z e) hx fun h₂ h1₂ hs₂ => wpAny_pure ?_)
    have hTO₂ : IsPair h₂ TO a b := hs₂.extBut _ _ D.TOi1 (hs₁.extBut _ _ D.TOz hTO)
    refine wpAny_bind (wpAny_seqItems hTO₂ rfl ?_)
    refine wpAny_bind (wpAny_updateSeq_pair hTO₂ fun h₃ hTO₃ hs₃ => ?_)
    replace hTO₃ : IsPair h₃ TO x b := hTO₃
    refine wpAny_bind (wpAny_letGo (wpAny_pure ?_))
    refine wpAny_bind (wpAny_bind (wpAny_onRaise ?_))
    show wpAny _ _ (Builtin.SmallTypes.nextOf (.ref i2) >>= _) _ _ _
    refine wpAny_bind (It1.next (h2.at (fun o e => hs₃.extBut _ _ D.TOi2.symm (hs₂.extBut _ _ D.i12.symm (hs₁.extBut _ _ D.i2z e))) fun o e => hs₃.extBut _ _ D.l2TO (hs₂.extBut _ _ D.l2i1 (hs₁.extBut _ _ D.l2z e))) hy fun h₄ h2₄ hs₄ => wpAny_pure ?_)
    have hTO₄ : IsPair h₄ TO x b := hs₄.extBut _ _ D.TOi2 hTO₃
    refine wpAny_bind (wpAny_seqItems hTO₄ rfl ?_)
    refine wpAny_bind (wpAny_updateSeq_pair hTO₄ fun h₅ hTO₅ hs₅ => ?_)
    replace hTO₅ : IsPair h₅ TO x y := hTO₅
    refine wpAny_bind (wpAny_letGo (wpAny_pure (wpAny_pure ?_)))
    refine wpAny_bind (wpAny_seqItems hTO₅ rfl ?_)
    refine wpAny_bind (wpAny_newTuple ?_)
    have hsz : h₅.objs.size = s.heap.objs.size := by rw [hs₅.1, hs₄.1, hs₃.1, hs₂.1, hs₁.1]
    have hz₅ : h₅.get? z = some (zobj TI TO .ellipsis f1) := hs₅.extBut _ _ D.TOz.symm (hs₄.extBut _ _ D.i2z.symm (hs₃.extBut _ _ D.TOz.symm (hs₂.extBut _ _ D.i1z.symm hz₁)))
    have hk₅ : ∀ c o, c ≠ z → c ≠ TO → c ≠ i1 → c ≠ i2 → s.heap.get? c = some o → h₅.get? c = some o := fun c o c1 c2 c3 c4 e =>
      hs₅.extBut _ _ c2 (hs₄.extBut _ _ c4 (hs₃.extBut _ _ c2 (hs₂.extBut _ _ c3 (hs₁.extBut _ _ c1 e))))
    have h1₅ : It1 h₅ i1 l1 (k + 1) xs := h1₂.at (fun o e => hs₅.extBut _ _ D.TOi1.symm (hs₄.extBut _ _ D.i12 (hs₃.extBut _ _ D.TOi1.symm e))) fun o e => hs₅.extBut _ _ D.l1TO (hs₄.extBut _ _ D.l1i2 (hs₃.extBut _ _ D.l1TO e))
    have h2₅ : It1 h₅ i2 l2 (k + 1) ys := h2₄.at (fun o e => hs₅.extBut _ _ D.TOi2.symm e) fun o e => hs₅.extBut _ _ D.l2TO e
    have hzlt : z < h₅.objs.size := Heap.lt_size hz₅
    show wpAny _ _ (Builtin.SmallTypes.ownedTupleHandOut (.ref z) (.ref h₅.objs.size) >>= _) _ _ _
    refine wpAny_bind ?_
    unfold Builtin.SmallTypes.ownedTupleHandOut
    have hz₆ : (h₅.push { cls := .type "tuple", data := .seq #[x, y] }).get? z = some (zobj TI TO .ellipsis f1) := Heap.get?_push_of_some _ hz₅
    refine wpAny_bind (wpAny_setField_rec hz₆ (by simp) fun h₇ hz₇ hs₇ => ?_)
    replace hz₇ : h₇.get? z = some (zobj TI TO (rawInt h₅.objs.size) f1) := hz₇
    refine wpAny_setField_rec hz₇ (by simp) fun h₈ hz₈ hs₈ => ?_
    replace hz₈ : h₈.get? z = some (zobj TI TO (rawInt h₅.objs.size) (.bool false)) := hz₈
    have up : ∀ c o, c ≠ z → h₅.get? c = some o → h₈.get? c = some o := fun c o c1 e => hs₈.extBut _ _ c1 (hs₇.extBut _ _ c1 (Heap.get?_push_of_some _ e))
    have hT₈ : IsPair h₈ h₅.objs.size x y := hs₈.extBut _ _ (Nat.ne_of_gt hzlt) (hs₇.extBut _ _ (Nat.ne_of_gt hzlt) (Heap.get?_push_size _ rfl))
    refine wpAny_pure ⟨_, rfl, hQ h₈ h₅.objs.size ⟨⟨_, _, hz₈, .inr ⟨_, rfl⟩⟩, up _ _ D.TIz (hk₅ _ _ D.TIz D.TITO D.TIi1 D.TIi2 hTI), ⟨_, _, up _ _ D.TOz hTO₅⟩, h1₅.at (fun o e => up _ o D.i1z e) fun o e => up _ o D.l1z e, h2₅.at (fun o e => up _ o D.i2z e) fun o e => up _ o D.l2z e⟩ hT₈ (by rw [hsz]; exact Nat.le_refl _) fun c o c1 c2 c3 c4 e => up c o c1 (hk₅ c o c1 c2 c3 c4 e)⟩
  · simp only [Bool.false_eq_true, if_false]
    refine wpAny_bind ?_
    simp only [List.forIn_toArray, List.forIn_cons, List.forIn_nil]
    refine wpAny_bind (wpAny_bind (wpAny_holding ?_))
    show wpAny _ _ (Builtin.SmallTypes.nextOf (.ref i1) >>= _) _ _ _
    refine wpAny_bind (It1.next (h1.at (fun o e => hs₁.extBut _ _ D.i1z e) fun o e => hs₁.extBut _ _ D.l1z e) hx fun h₂ h1₂ hs₂ => wpAny_pure (wpAny_pure ?_))
    refine wpAny_bind (wpAny_bind (wpAny_holding ?_))
    show wpAny _ _ (Builtin.SmallTypes.nextOf (.ref i2) >>= _) _ _ _
    refine wpAny_bind (It1.next (h2.at (fun o e => hs₂.extBut _ _ D.i12.symm (hs₁.extBut _ _ D.i2z e)) fun o e => hs₂.extBut _ _ D.l2i1 (hs₁.extBut _ _ D.l2z e)) hy fun h₃ h2₃ hs₃ => wpAny_pure (wpAny_pure (wpAny_pure ?_)))
    show wpAny _ _ (newTuple [x, y] >>= _) _ _ _
    refine wpAny_bind (wpAny_newTuple ?_)
    have hsz : h₃.objs.size = s.heap.objs.size := by rw [hs₃.1, hs₂.1, hs₁.1]
    have kp : ∀ c o, c ≠ z → c ≠ i1 → c ≠ i2 → s.heap.get? c = some o → (h₃.push { cls := .type "tuple", data := .seq #[x, y] }).get? c = some o := fun c o c1 c2 c3 e => Heap.get?_push_of_some _ (hs₃.extBut _ _ c3 (hs₂.extBut _ _ c2 (hs₁.extBut _ _ c1 e)))
    refine wpAny_pure ⟨_, rfl, hQ _ h₃.objs.size ⟨⟨f0, f1', Heap.get?_push_of_some _ (hs₃.extBut _ _ D.i2z.symm (hs₂.extBut _ _ D.i1z.symm hz₁)), hf⟩, kp _ _ D.TIz D.TIi1 D.TIi2 hTI, ⟨_, _, kp _ _ D.TOz D.TOi1 D.TOi2 hTO⟩, ?_, ?_⟩ (Heap.get?_push_size _ rfl) (by rw [hsz]; exact Nat.le_refl _) fun c o c1 c2 c3 c4 e => kp c o c1 c3 c4 e⟩
    · exact h1₂.at (fun o e => Heap.get?_push_of_some _ (hs₃.extBut _ _ D.i12 e)) fun o e => Heap.get?_push_of_some _ (hs₃.extBut _ _ D.l1i2 e)
    · exact h2₃.at (fun o e => Heap.get?_push_of_some _ e) fun o e => Heap.get?_push_of_some _ e
theorem zip_next_end {z TI TO i1 i2 l1 l2 : Addr} {k : Nat} {xs ys : Array Value} {Q : Fin → Shared → Prop} (hh : A.handled = none) (D : Ap z TI TO i1 i2 l1 l2) (Z : Zs s.heap z TI TO i1 i2 l1 l2 k xs ys) (hend : xs[k]? = none ∨ ys[k]? = none)
    (hE : ∀ h' e, (∀ c o, c ≠ z → c ≠ TO → c ≠ i1 → c ≠ i2 → s.heap.get? c = some o → h'.get? c = some o) → (∃ o, h'.get? e = some o ∧ o.cls = .type "StopIteration") → E (.ref e) { s with heap := h' }) :
    wpAny (model prog w) A (Builtin.«zip.__next__» ⟨[.ref z], []⟩) Q E s := by
  obtain ⟨⟨f0, f1, hz, hf⟩, hTI, ⟨a, b, hTO⟩, h1, h2⟩ := Z
  show wpAny _ _ (field (.ref z) 2 >>= _) _ _ _
  refine wpAny_bind (wpAny_field hz rfl (x := .bool false) rfl ?_)
  show wpAny _ _ (field (.ref z) 3 >>= _) _ _ _
  refine wpAny_bind (wpAny_field hz rfl (x := .ref TI) rfl ?_)
  refine wpAny_bind (wpAny_seqItems hTI rfl ?_)
  show wpAny _ _ (Builtin.SmallTypes.ownedTupleIsFree (.ref z) >>= _) _ _ _
  refine wpAny_bind (free_or hz hf ?_ fun h₁ f1' hz₁ hs₁ => ?_)
  · simp only [if_true]
    refine wpAny_bind (wpAny_rule ?_)
    refine wpAny_bind (wpAny_field hz rfl (x := .ref TO) rfl ?_)
    refine wpAny_bind (wpAny_setField_rec hz (by simp) fun h₁ hz₁ hs₁ => ?_)
    replace hz₁ : h₁.get? z = some (zobj TI TO .ellipsis f1) := hz₁
    refine wpAny_bind ?_
    simp only [List.zipIdx_cons, List.zipIdx_nil, List.forIn_cons, List.forIn_nil]
    refine wpAny_bind (wpAny_bind (wpAny_onRaise ?_))
    show wpAny _ _ (Builtin.SmallTypes.nextOf (.ref i1) >>= _) _ _ _
    have h1' := h1.at (h' := h₁) (fun o e => hs₁.extBut _ _ D.i1z e) fun o e => hs₁.extBut _ _ D.l1z e
    cases hx : xs[k]? with
    | none =>
      refine wpAny_bind (It1.stop hh h1' hx fun h₂ e hs₂ he => ?_)
      obtain ⟨oe, hoe, hce⟩ := he
      have hz₂ : h₂.get? z = some (zobj TI TO .ellipsis f1) := hs₂ _ _ D.i1z.symm hz₁
      have hez : e ≠ z := fun x => by subst x; rw [hz₂] at hoe; cases hoe; simp at hce
      exact wpAny_setField_rec hz₂ (by simp) fun h₃ _ hs₃ => hE h₃ e (fun c o c1 _ c3 _ x => hs₃.extBut _ _ c1 (hs₂ _ _ c3 (hs₁.extBut _ _ c1 x))) ⟨oe, hs₃.extBut _ _ hez hoe, hce⟩
    | some x =>
      have hy : ys[k]? = none := by rcases hend with h | h; rw [hx] at h; cases h; exact h
      refine wpAny_bind (It1.next h1' hx fun h₂ h1₂ hs₂ => wpAny_pure ?_)
      have hTO₂ : IsPair h₂ TO a b := hs₂.extBut _ _ D.TOi1 (hs₁.extBut _ _ D.TOz hTO)
      refine wpAny_bind (wpAny_seqItems hTO₂ rfl ?_)
      refine wpAny_bind (wpAny_updateSeq_pair hTO₂ fun h₃ hTO₃ hs₃ => ?_)
      refine wpAny_bind (wpAny_letGo (wpAny_pure ?_))
      refine wpAny_bind (wpAny_bind (wpAny_onRaise ?_))
      show wpAny _ _ (Builtin.SmallTypes.nextOf (.ref i2) >>= _) _ _ _
      refine wpAny_bind (It1.stop hh (h2.at (fun o e => hs₃.extBut _ _ D.TOi2.symm (hs₂.extBut _ _ D.i12.symm (hs₁.extBut _ _ D.i2z e))) fun o e => hs₃.extBut _ _ D.l2TO (hs₂.extBut _ _ D.l2i1 (hs₁.extBut _ _ D.l2z e))) hy fun h₄ e hs₄ he => ?_)
      obtain ⟨oe, hoe, hce⟩ := he
      have hz₄ : h₄.get? z = some (zobj TI TO .ellipsis f1) := hs₄ _ _ D.i2z.symm (hs₃.extBut _ _ D.TOz.symm (hs₂.extBut _ _ D.i1z.symm hz₁))
      have hez : e ≠ z := fun x => by subst x; rw [hz₄] at hoe; cases hoe; simp at hce
      exact wpAny_setField_rec hz₄ (by simp) fun h₅ _ hs₅ => hE h₅ e (fun c o c1 c2 c3 c4 x => hs₅.extBut _ _ c1 (hs₄ _ _ c4 (hs₃.extBut _ _ c2 (hs₂.extBut _ _ c3 (hs₁.extBut _ _ c1 x))))) ⟨oe, hs₅.extBut _ _ hez hoe, hce⟩
  · simp only [Bool.false_eq_true, if_false]
    refine wpAny_bind ?_
    simp only [List.forIn_toArray, List.forIn_cons, List.forIn_nil]
    refine wpAny_bind (wpAny_bind (wpAny_holding ?_))
    show wpAny _ _ (Builtin.SmallTypes.nextOf (.ref i1) >>= _) _ _ _
    have h1' := h1.at (h' := h₁) (fun o e => hs₁.extBut _ _ D.i1z e) fun o e => hs₁.extBut _ _ D.l1z e
    cases hx : xs[k]? with
    | none => exact wpAny_bind (It1.stop hh h1' hx fun h₂ e hs₂ he => hE h₂ e (fun c o c1 _ c3 _ x => hs₂ _ _ c3 (hs₁.extBut _ _ c1 x)) he)
    | some x =>
      have hy : ys[k]? = none := by rcases hend with h | h; rw [hx] at h; cases h; exact h
      refine wpAny_bind (It1.next h1' hx fun h₂ h1₂ hs₂ => wpAny_pure (wpAny_pure ?_))
      refine wpAny_bind (wpAny_bind (wpAny_holding ?_))
      show wpAny _ _ (Builtin.SmallTypes.nextOf (.ref i2) >>= _) _ _ _
      exact wpAny_bind (It1.stop hh (h2.at (fun o e => hs₂.extBut _ _ D.i12.symm (hs₁.extBut _ _ D.i2z e)) fun o e => hs₂.extBut _ _ D.l2i1 (hs₁.extBut _ _ D.l2z e)) hy fun h₃ e hs₃ he => hE h₃ e (fun c o c1 _ c3 c4 x => hs₃ _ _ c4 (hs₂.extBut _ _ c3 (hs₁.extBut _ _ c1 x))) he)
end
end ZP

set_option Elab.async false
set_option linter.all false
set_option maxRecDepth 100000
set_option maxHeartbeats 4000000
namespace ZP
open PySem PySem.Spec PyProof.Rows
section
variable {prog : Program} {w : World} {A : Around} {E : Value → Shared → Prop} {s : Shared}
abbrev zH1LL (h : Heap) (l1 : Addr) : Heap := h.push { cls := .type "list_iterator", data := .fields #[.ref l1, .int 0 0] }
abbrev zH2LL (h : Heap) (l1 l2 : Addr) : Heap := (zH1LL h l1).push { cls := .type "list_iterator", data := .fields #[.ref l2, .int 0 0] }
abbrev zH3LL (h : Heap) (l1 l2 : Addr) : Heap := (zH2LL h l1 l2).push { cls := .type "tuple", data := .seq #[.ref h.objs.size, .ref (zH1LL h l1).objs.size] }
abbrev zH4LL (h : Heap) (l1 l2 : Addr) : Heap := (zH3LL h l1 l2).push { cls := .type "tuple", data := .seq #[.none, .none] }
abbrev zH5LL (h : Heap) (l1 l2 : Addr) : Heap := (zH4LL h l1 l2).push { cls := .type "zip", data := .fields #[.none, .bool false, .bool false, .ref (zH2LL h l1 l2).objs.size, .ref (zH3LL h l1 l2).objs.size] }
theorem meets_zipLL (l1 l2 : Addr) (xs ys : Array Value) :
    Meets (Builtin.«zip.__new__» ⟨[.type "zip", .ref l1, .ref l2], []⟩) (fun _ R s => s.heap.IsList l1 xs ∧ s.heap.IsList l2 ys ∧
      R (.ok (.ret (.ref (zH4LL s.heap l1 l2).objs.size))) { s with heap := zH5LL s.heap l1 l2 }) :=
  .of_wp fun prog w A R s h => by
    obtain ⟨hp, g, d, tk, os⟩ := s; obtain ⟨hl1, hl2, h⟩ := h
    have hsub := sub_zip
    have hL1 : Heap.IsList (Shared.heap ⟨hp, g, d, tk, os⟩) l1 xs := hl1
    have hL2 : Heap.IsList (Shared.heap ⟨hp.push { cls := .type "list_iterator", data := .fields #[.ref l1, .int 0 0] }, g, d, tk, os⟩) l2 ys := by
      obtain ⟨o, ho, r⟩ := hl2
      exact ⟨o, Heap.get?_push_of_some _ ho, r⟩
    wp_walk using wpAny_pyIter_list hL1, wpAny_pyIter_list hL2
    exact ⟨_, rfl, h⟩
theorem call_zipLL {l1 l2 : Addr} {xs ys : Array Value} {Q : Value → Shared → Prop} (hl1 : s.heap.IsList l1 xs) (hl2 : s.heap.IsList l2 ys)
    (h : ∀ h', Zs h' (s.heap.objs.size + 4) (s.heap.objs.size + 2) (s.heap.objs.size + 3) s.heap.objs.size (s.heap.objs.size + 1) l1 l2 0 xs ys → h'.objs.size = s.heap.objs.size + 5 →
      (∀ c o, s.heap.get? c = some o → h'.get? c = some o) → Q (.ref (s.heap.objs.size + 4)) { s with heap := h' }) :
    wpAny (model prog w) A (call (.type "zip") [.ref l1, .ref l2]) Q E s := by
  refine callType_new F.called_zip (by decide) (F.typeCall_zip_2 _ _) (F.newCall_zip_2 _ _) (fun obj => F.args_object_init_3 obj _ _) F.entry_zip_new
    (meets_zipLL l1 l2 xs ys) ⟨hl1, hl2, ?_⟩
  have z1 : (zH1LL s.heap l1).objs.size = s.heap.objs.size + 1 := Heap.size_push ..
  have z2 : (zH2LL s.heap l1 l2).objs.size = s.heap.objs.size + 2 := by rw [Heap.size_push, z1]
  have z3 : (zH3LL s.heap l1 l2).objs.size = s.heap.objs.size + 3 := by rw [Heap.size_push, z2]
  have z4 : (zH4LL s.heap l1 l2).objs.size = s.heap.objs.size + 4 := by rw [Heap.size_push, z3]
  have z5 : (zH5LL s.heap l1 l2).objs.size = s.heap.objs.size + 5 := by rw [Heap.size_push, z4]
  have g5 : (zH5LL s.heap l1 l2).get? (zH4LL s.heap l1 l2).objs.size = some _ := Heap.get?_push_size _ rfl
  have g4 : (zH5LL s.heap l1 l2).get? (zH3LL s.heap l1 l2).objs.size = some _ := Heap.get?_push_of_some _ (Heap.get?_push_size _ rfl)
  have g3 : (zH5LL s.heap l1 l2).get? (zH2LL s.heap l1 l2).objs.size = some _ := Heap.get?_push_of_some _ (Heap.get?_push_of_some _ (Heap.get?_push_size _ rfl))
  have g2 : (zH5LL s.heap l1 l2).get? (zH1LL s.heap l1).objs.size = some _ := Heap.get?_push_of_some _ (Heap.get?_push_of_some _ (Heap.get?_push_of_some _ (Heap.get?_push_size _ rfl)))
  have g1 : (zH5LL s.heap l1 l2).get? s.heap.objs.size = some _ := Heap.get?_push_of_some _ (Heap.get?_push_of_some _ (Heap.get?_push_of_some _ (Heap.get?_push_of_some _ (Heap.get?_push_size _ rfl))))
  have kp : ∀ c o, s.heap.get? c = some o → (zH5LL s.heap l1 l2).get? c = some o := fun c o x =>
    Heap.get?_push_of_some _ (Heap.get?_push_of_some _ (Heap.get?_push_of_some _ (Heap.get?_push_of_some _ (Heap.get?_push_of_some _ x))))
  show _ ∧ _
  rw [z2, z3, z4] at g5
  rw [z1, z2] at g3
  rw [z3] at g4
  rw [z1] at g2
  rw [z4]
  refine ⟨⟨_, g5, rfl⟩, h _ ⟨⟨_, _, g5, .inl rfl⟩, g3, ⟨_, _, g4⟩, .inl ⟨⟨_, g1, rfl, rfl⟩, ?_⟩, .inl ⟨⟨_, g2, rfl, rfl⟩, ?_⟩⟩ z5 kp⟩
  · obtain ⟨o, ho, r⟩ := hl1; exact ⟨o, kp _ _ ho, r⟩
  · obtain ⟨o, ho, r⟩ := hl2; exact ⟨o, kp _ _ ho, r⟩
abbrev zH1LT (h : Heap) (l1 : Addr) : Heap := h.push { cls := .type "list_iterator", data := .fields #[.ref l1, .int 0 0] }
abbrev zH2LT (h : Heap) (l1 l2 : Addr) : Heap := (zH1LT h l1).push { cls := .type "tuple_iterator", data := .fields #[.ref l2, .int 0 0] }
abbrev zH3LT (h : Heap) (l1 l2 : Addr) : Heap := (zH2LT h l1 l2).push { cls := .type "tuple", data := .seq #[.ref h.objs.size, .ref (zH1LT h l1).objs.size] }
abbrev zH4LT (h : Heap) (l1 l2 : Addr) : Heap := (zH3LT h l1 l2).push { cls := .type "tuple", data := .seq #[.none, .none] }
abbrev zH5LT (h : Heap) (l1 l2 : Addr) : Heap := (zH4LT h l1 l2).push { cls := .type "zip", data := .fields #[.none, .bool false, .bool false, .ref (zH2LT h l1 l2).objs.size, .ref (zH3LT h l1 l2).objs.size] }
theorem meets_zipLT (l1 l2 : Addr) (xs ys : Array Value) :
    Meets (Builtin.«zip.__new__» ⟨[.type "zip", .ref l1, .ref l2], []⟩) (fun _ R s => s.heap.IsList l1 xs ∧ s.heap.IsTuple l2 ys ∧
      R (.ok (.ret (.ref (zH4LT s.heap l1 l2).objs.size))) { s with heap := zH5LT s.heap l1 l2 }) :=
  .of_wp fun prog w A R s h => by
    obtain ⟨hp, g, d, tk, os⟩ := s; obtain ⟨hl1, hl2, h⟩ := h
    have hsub := sub_zip
    have hL1 : Heap.IsList (Shared.heap ⟨hp, g, d, tk, os⟩) l1 xs := hl1
    have hL2 : Heap.IsTuple (Shared.heap ⟨hp.push { cls := .type "list_iterator", data := .fields #[.ref l1, .int 0 0] }, g, d, tk, os⟩) l2 ys := by
      obtain ⟨o, ho, r⟩ := hl2
      exact ⟨o, Heap.get?_push_of_some _ ho, r⟩
    wp_walk using wpAny_pyIter_list hL1, wpAny_pyIter_tuple hL2
    exact ⟨_, rfl, h⟩
theorem call_zipLT {l1 l2 : Addr} {xs ys : Array Value} {Q : Value → Shared → Prop} (hl1 : s.heap.IsList l1 xs) (hl2 : s.heap.IsTuple l2 ys)
    (h : ∀ h', Zs h' (s.heap.objs.size + 4) (s.heap.objs.size + 2) (s.heap.objs.size + 3) s.heap.objs.size (s.heap.objs.size + 1) l1 l2 0 xs ys → h'.objs.size = s.heap.objs.size + 5 →
      (∀ c o, s.heap.get? c = some o → h'.get? c = some o) → Q (.ref (s.heap.objs.size + 4)) { s with heap := h' }) :
    wpAny (model prog w) A (call (.type "zip") [.ref l1, .ref l2]) Q E s := by
  refine callType_new F.called_zip (by decide) (F.typeCall_zip_2 _ _) (F.newCall_zip_2 _ _) (fun obj => F.args_object_init_3 obj _ _) F.entry_zip_new
    (meets_zipLT l1 l2 xs ys) ⟨hl1, hl2, ?_⟩
  have z1 : (zH1LT s.heap l1).objs.size = s.heap.objs.size + 1 := Heap.size_push ..
  have z2 : (zH2LT s.heap l1 l2).objs.size = s.heap.objs.size + 2 := by rw [Heap.size_push, z1]
  have z3 : (zH3LT s.heap l1 l2).objs.size = s.heap.objs.size + 3 := by rw [Heap.size_push, z2]
  have z4 : (zH4LT s.heap l1 l2).objs.size = s.heap.objs.size + 4 := by rw [Heap.size_push, z3]
  have z5 : (zH5LT s.heap l1 l2).objs.size = s.heap.objs.size + 5 := by rw [Heap.size_push, z4]
  have g5 : (zH5LT s.heap l1 l2).get? (zH4LT s.heap l1 l2).objs.size = some _ := Heap.get?_push_size _ rfl
  have g4 : (zH5LT s.heap l1 l2).get? (zH3LT s.heap l1 l2).objs.size = some _ := Heap.get?_push_of_some _ (Heap.get?_push_size _ rfl)
  have g3 : (zH5LT s.heap l1 l2).get? (zH2LT s.heap l1 l2).objs.size = some _ := Heap.get?_push_of_some _ (Heap.get?_push_of_some _ (Heap.get?_push_size _ rfl))
  have g2 : (zH5LT s.heap l1 l2).get? (zH1LT s.heap l1).objs.size = some _ := Heap.get?_push_of_some _ (Heap.get?_push_of_some _ (Heap.get?_push_of_some _ (Heap.get?_push_size _ rfl)))
  have g1 : (zH5LT s.heap l1 l2).get? s.heap.objs.size = some _ := Heap.get?_push_of_some _ (Heap.get?_push_of_some _ (Heap.get?_push_of_some _ (Heap.get?_push_of_some _ (Heap.get?_push_size _ rfl))))
  have kp : ∀ c o, s.heap.get? c = some o → (zH5LT s.heap l1 l2).get? c = some o := fun c o x =>
    Heap.get?_push_of_some _ (Heap.get?_push_of_some _ (Heap.get?_push_of_some _ (Heap.get?_push_of_some _ (Heap.get?_push_of_some _ x))))
  show _ ∧ _
  rw [z2, z3, z4] at g5
  rw [z1, z2] at g3
  rw [z3] at g4
  rw [z1] at g2
  rw [z4]
  refine ⟨⟨_, g5, rfl⟩, h _ ⟨⟨_, _, g5, .inl rfl⟩, g3, ⟨_, _, g4⟩, .inl ⟨⟨_, g1, rfl, rfl⟩, ?_⟩, .inr ⟨⟨_, g2, rfl, rfl⟩, ?_⟩⟩ z5 kp⟩
  · obtain ⟨o, ho, r⟩ := hl1; exact ⟨o, kp _ _ ho, r⟩
  · obtain ⟨o, ho, r⟩ := hl2; exact ⟨o, kp _ _ ho, r⟩
abbrev zH1TL (h : Heap) (l1 : Addr) : Heap := h.push { cls := .type "tuple_iterator", data := .fields #[.ref l1, .int 0 0] }
abbrev zH2TL (h : Heap) (l1 l2 : Addr) : Heap := (zH1TL h l1).push { cls := .type "list_iterator", data := .fields #[.ref l2, .int 0 0] }
abbrev zH3TL (h : Heap) (l1 l2 : Addr) : Heap := (zH2TL h l1 l2).push { cls := .type "tuple", data := .seq #[.ref h.objs.size, .ref (zH1TL h l1).objs.size] }
abbrev zH4TL (h : Heap) (l1 l2 : Addr) : Heap := (zH3TL h l1 l2).push { cls := .type "tuple", data := .seq #[.none, .none] }
abbrev zH5TL (h : Heap) (l1 l2 : Addr) : Heap := (zH4TL h l1 l2).push { cls := .type "zip", data := .fields #[.none, .bool false, .bool false, .ref (zH2TL h l1 l2).objs.size, .ref (zH3TL h l1 l2).objs.size] }
theorem meets_zipTL (l1 l2 : Addr) (xs ys : Array Value) :
    Meets (Builtin.«zip.__new__» ⟨[.type "zip", .ref l1, .ref l2], []⟩) (fun _ R s => s.heap.IsTuple l1 xs ∧ s.heap.IsList l2 ys ∧
      R (.ok (.ret (.ref (zH4TL s.heap l1 l2).objs.size))) { s with heap := zH5TL s.heap l1 l2 }) :=
  .of_wp fun prog w A R s h => by
    obtain ⟨hp, g, d, tk, os⟩ := s; obtain ⟨hl1, hl2, h⟩ := h
    have hsub := sub_zip
    have hL1 : Heap.IsTuple (Shared.heap ⟨hp, g, d, tk, os⟩) l1 xs := hl1
    have hL2 : Heap.IsList (Shared.heap ⟨hp.push { cls := .type "tuple_iterator", data := .fields #[.ref l1, .int 0 0] }, g, d, tk, os⟩) l2 ys := by
      obtain ⟨o, ho, r⟩ := hl2
      exact ⟨o, Heap.get?_push_of_some _ ho, r⟩
    wp_walk using wpAny_pyIter_tuple hL1, wpAny_pyIter_list hL2
    exact ⟨_, rfl, h⟩
theorem call_zipTL {l1 l2 : Addr} {xs ys : Array Value} {Q : Value → Shared → Prop} (hl1 : s.heap.IsTuple l1 xs) (hl2 : s.heap.IsList l2 ys)
    (h : ∀ h', Zs h' (s.heap.objs.size + 4) (s.heap.objs.size + 2) (s.heap.objs.size + 3) s.heap.objs.size (s.heap.objs.size + 1) l1 l2 0 xs ys → h'.objs.size = s.heap.objs.size + 5 →
      (∀ c o, s.heap.get? c = some o → h'.get? c = some o) → Q (.ref (s.heap.objs.size + 4)) { s with heap := h' }) :
    wpAny (model prog w) A (call (.type "zip") [.ref l1, .ref l2]) Q E s := by
  refine callType_new F.called_zip (by decide) (F.typeCall_zip_2 _ _) (F.newCall_zip_2 _ _) (fun obj => F.args_object_init_3 obj _ _) F.entry_zip_new
    (meets_zipTL l1 l2 xs ys) ⟨hl1, hl2, ?_⟩
  have z1 : (zH1TL s.heap l1).objs.size = s.heap.objs.size + 1 := Heap.size_push ..
  have z2 : (zH2TL s.heap l1 l2).objs.size = s.heap.objs.size + 2 := by rw [Heap.size_push, z1]
  have z3 : (zH3TL s.heap l1 l2).objs.size = s.heap.objs.size + 3 := by rw [Heap.size_push, z2]
  have z4 : (zH4TL s.heap l1 l2).objs.size = s.heap.objs.size + 4 := by rw [Heap.size_push, z3]
  have z5 : (zH5TL s.heap l1 l2).objs.size = s.heap.objs.size + 5 := by rw [Heap.size_push, z4]
  have g5 : (zH5TL s.heap l1 l2).get? (zH4TL s.heap l1 l2).objs.size = some _ := Heap.get?_push_size _ rfl
  have g4 : (zH5TL s.heap l1 l2).get? (zH3TL s.heap l1 l2).objs.size = some _ := Heap.get?_push_of_some _ (Heap.get?_push_size _ rfl)
  have g3 : (zH5TL s.heap l1 l2).get? (zH2TL s.heap l1 l2).objs.size = some _ := Heap.get?_push_of_some _ (Heap.get?_push_of_some _ (Heap.get?_push_size _ rfl))
  have g2 : (zH5TL s.heap l1 l2).get? (zH1TL s.heap l1).objs.size = some _ := Heap.get?_push_of_some _ (Heap.get?_push_of_some _ (Heap.get?_push_of_some _ (Heap.get?_push_size _ rfl)))
  have g1 : (zH5TL s.heap l1 l2).get? s.heap.objs.size = some _ := Heap.get?_push_of_some _ (Heap.get?_push_of_some _ (Heap.get?_push_of_some _ (Heap.get?_push_of_some _ (Heap.get?_push_size _ rfl))))
  have kp : ∀ c o, s.heap.get? c = some o → (zH5TL s.heap l1 l2).get? c = some o := fun c o x =>
    Heap.get?_push_of_some _ (Heap.get?_push_of_some _ (Heap.get?_push_of_some _ (Heap.get?_push_of_some _ (Heap.get?_push_of_some _ x))))
  show _ ∧ _
  rw [z2, z3, z4] at g5
  rw [z1, z2] at g3
  rw [z3] at g4
  rw [z1] at g2
  rw [z4]
  refine ⟨⟨_, g5, rfl⟩, h _ ⟨⟨_, _, g5, .inl rfl⟩, g3, ⟨_, _, g4⟩, .inr ⟨⟨_, g1, rfl, rfl⟩, ?_⟩, .inl ⟨⟨_, g2, rfl, rfl⟩, ?_⟩⟩ z5 kp⟩
  · obtain ⟨o, ho, r⟩ := hl1; exact ⟨o, kp _ _ ho, r⟩
  · obtain ⟨o, ho, r⟩ := hl2; exact ⟨o, kp _ _ ho, r⟩
abbrev zH1TT (h : Heap) (l1 : Addr) : Heap := h.push { cls := .type "tuple_iterator", data := .fields #[.ref l1, .int 0 0] }
abbrev zH2TT (h : Heap) (l1 l2 : Addr) : Heap := (zH1TT h l1).push { cls := .type "tuple_iterator", data := .fields #[.ref l2, .int 0 0] }
abbrev zH3TT (h : Heap) (l1 l2 : Addr) : Heap := (zH2TT h l1 l2).push { cls := .type "tuple", data := .seq #[.ref h.objs.size, .ref (zH1TT h l1).objs.size] }
abbrev zH4TT (h : Heap) (l1 l2 : Addr) : Heap := (zH3TT h l1 l2).push { cls := .type "tuple", data := .seq #[.none, .none] }
abbrev zH5TT (h : Heap) (l1 l2 : Addr) : Heap := (zH4TT h l1 l2).push { cls := .type "zip", data := .fields #[.none, .bool false, .bool false, .ref (zH2TT h l1 l2).objs.size, .ref (zH3TT h l1 l2).objs.size] }
theorem meets_zipTT (l1 l2 : Addr) (xs ys : Array Value) :
    Meets (Builtin.«zip.__new__» ⟨[.type "zip", .ref l1, .ref l2], []⟩) (fun _ R s => s.heap.IsTuple l1 xs ∧ s.heap.IsTuple l2 ys ∧
      R (.ok (.ret (.ref (zH4TT s.heap l1 l2).objs.size))) { s with heap := zH5TT s.heap l1 l2 }) :=
  .of_wp fun prog w A R s h => by
    obtain ⟨hp, g, d, tk, os⟩ := s; obtain ⟨hl1, hl2, h⟩ := h
    have hsub := sub_zip
    have hL1 : Heap.IsTuple (Shared.heap ⟨hp, g, d, tk, os⟩) l1 xs := hl1
    have hL2 : Heap.IsTuple (Shared.heap ⟨hp.push { cls := .type "tuple_iterator", data := .fields #[.ref l1, .int 0 0] }, g, d, tk, os⟩) l2 ys := by
      obtain ⟨o, ho, r⟩ := hl2
      exact ⟨o, Heap.get?_push_of_some _ ho, r⟩
    wp_walk using wpAny_pyIter_tuple hL1, wpAny_pyIter_tuple hL2
    exact ⟨_, rfl, h⟩
theorem call_zipTT {l1 l2 : Addr} {xs ys : Array Value} {Q : Value → Shared → Prop} (hl1 : s.heap.IsTuple l1 xs) (hl2 : s.heap.IsTuple l2 ys)
    (h : ∀ h', Zs h' (s.heap.objs.size + 4) (s.heap.objs.size + 2) (s.heap.objs.size + 3) s.heap.objs.size (s.heap.objs.size + 1) l1 l2 0 xs ys → h'.objs.size = s.heap.objs.size + 5 →
      (∀ c o, s.heap.get? c = some o → h'.get? c = some o) → Q (.ref (s.heap.objs.size + 4)) { s with heap := h' }) :
    wpAny (model prog w) A (call (.type "zip") [.ref l1, .ref l2]) Q E s := by
  refine callType_new F.called_zip (by decide) (F.typeCall_zip_2 _ _) (F.newCall_zip_2 _ _) (fun obj => F.args_object_init_3 obj _ _) F.entry_zip_new
    (meets_zipTT l1 l2 xs ys) ⟨hl1, hl2, ?_⟩
  have z1 : (zH1TT s.heap l1).objs.size = s.heap.objs.size + 1 := Heap.size_push ..
  have z2 : (zH2TT s.heap l1 l2).objs.size = s.heap.objs.size + 2 := by rw [Heap.size_push, z1]
  have z3 : (zH3TT s.heap l1 l2).objs.size = s.heap.objs.size + 3 := by rw [Heap.size_push, z2]
  have z4 : (zH4TT s.heap l1 l2).objs.size = s.heap.objs.size + 4 := by rw [Heap.size_push, z3]
  have z5 : (zH5TT s.heap l1 l2).objs.size = s.heap.objs.size + 5 := by rw [Heap.size_push, z4]
  have g5 : (zH5TT s.heap l1 l2).get? (zH4TT s.heap l1 l2).objs.size = some _ := Heap.get?_push_size _ rfl
  have g4 : (zH5TT s.heap l1 l2).get? (zH3TT s.heap l1 l2).objs.size = some _ := Heap.get?_push_of_some _ (Heap.get?_push_size _ rfl)
  have g3 : (zH5TT s.heap l1 l2).get? (zH2TT s.heap l1 l2).objs.size = some _ := Heap.get?_push_of_some _ (Heap.get?_push_of_some _ (Heap.get?_push_size _ rfl))
  have g2 : (zH5TT s.heap l1 l2).get? (zH1TT s.heap l1).objs.size = some _ := Heap.get?_push_of_some _ (Heap.get?_push_of_some _ (Heap.get?_push_of_some _ (Heap.get?_push_size _ rfl)))
  have g1 : (zH5TT s.heap l1 l2).get? s.heap.objs.size = some _ := Heap.get?_push_of_some _ (Heap.get?_push_of_some _ (Heap.get?_push_of_some _ (Heap.get?_push_of_some _ (Heap.get?_push_size _ rfl))))
  have kp : ∀ c o, s.heap.get? c = some o → (zH5TT s.heap l1 l2).get? c = some o := fun c o x =>
    Heap.get?_push_of_some _ (Heap.get?_push_of_some _ (Heap.get?_push_of_some _ (Heap.get?_push_of_some _ (Heap.get?_push_of_some _ x))))
  show _ ∧ _
  rw [z2, z3, z4] at g5
  rw [z1, z2] at g3
  rw [z3] at g4
  rw [z1] at g2
  rw [z4]
  refine ⟨⟨_, g5, rfl⟩, h _ ⟨⟨_, _, g5, .inl rfl⟩, g3, ⟨_, _, g4⟩, .inr ⟨⟨_, g1, rfl, rfl⟩, ?_⟩, .inr ⟨⟨_, g2, rfl, rfl⟩, ?_⟩⟩ z5 kp⟩
  · obtain ⟨o, ho, r⟩ := hl1; exact ⟨o, kp _ _ ho, r⟩
  · obtain ⟨o, ho, r⟩ := hl2; exact ⟨o, kp _ _ ho, r⟩
theorem call_zipG {l1 l2 : Addr} {xs ys : Array Value} {Q : Value → Shared → Prop} (h1 : s.heap.IsList l1 xs ∨ s.heap.IsTuple l1 xs) (h2 : s.heap.IsList l2 ys ∨ s.heap.IsTuple l2 ys)
    (h : ∀ h', Zs h' (s.heap.objs.size + 4) (s.heap.objs.size + 2) (s.heap.objs.size + 3) s.heap.objs.size (s.heap.objs.size + 1) l1 l2 0 xs ys → h'.objs.size = s.heap.objs.size + 5 →
      (∀ c o, s.heap.get? c = some o → h'.get? c = some o) → Q (.ref (s.heap.objs.size + 4)) { s with heap := h' }) :
    wpAny (model prog w) A (call (.type "zip") [.ref l1, .ref l2]) Q E s := by
  rcases h1 with h1 | h1 <;> rcases h2 with h2 | h2
  · exact call_zipLL h1 h2 h
  · exact call_zipLT h1 h2 h
  · exact call_zipTL h1 h2 h
  · exact call_zipTT h1 h2 h
end
end ZP

set_option Elab.async false
set_option linter.all false
set_option maxRecDepth 100000
set_option maxHeartbeats 4000000
namespace ZP
open PySem PySem.Spec PyProof.Rows
/-- the pairs made so far -/
def Prs (h : Heap) (z TO i1 i2 S : Addr) (acc : Array Value) (i : Nat) (xs ys : Array Value) : Prop :=
  acc.size = i ∧ ∀ j (hj : j < i), ∃ T x y, acc[j]? = some (.ref T) ∧ xs[j]? = some x ∧ ys[j]? = some y ∧ IsPair h T x y ∧ T ≠ z ∧ T ≠ TO ∧ T ≠ i1 ∧ T ≠ i2 ∧ T ≠ S
section
variable {prog : Program} {w : World} {A : Around} {R : Result → Shared → Prop}
variable {E : Value → Shared → Prop} {s : Shared}
theorem ap_of {n l1 l2 : Nat} (h1 : l1 < n) (h2 : l2 < n) : Ap (n + 4) (n + 2) (n + 3) n (n + 1) l1 l2 := by
  constructor <;> (show (_ : Nat) ≠ (_ : Nat); omega)
end
end ZP

set_option Elab.async false
set_option linter.all false
set_option maxRecDepth 100000
set_option maxHeartbeats 4000000
namespace EV
open PySem PySem.Spec PyProof.Rows L2
section
variable {X : Cx} {pins : List (Addr × Obj)} {σ : L2.St} {H H' : Hp} {s : Shared} {h' : Heap}
end
def rZip (K : PySem.W.Frag) : R2 := fun x y H Q => ∃ a b xs ys, x = .ref a ∧ y = .ref b ∧ (SqL K H a xs ∨ SqT K H a xs) ∧ (SqL K H b ys ∨ SqT K H b ys) ∧
  ∀ (H' : Hp) (p : Addr) (Ts : List Addr), (∀ b o, H b = some o → H' b = some o) → H p = none → H' p = some (.lst (Ts.map V.ref)) → Ts.length = min xs.length ys.length →
    (∀ (j : Nat) (T : Addr) (x y : V), Ts[j]? = some T → xs[j]? = some x → ys[j]? = some y → H' T = some (.tup [x, y])) → Q (.ref p) H'
section
variable {X : Cx} {K : PySem.W.Frag} {Z : Zt} {a b : Expr} {fa fb : FE} {ta tb : TE} {p q pos pos2 : Pos}
/-- list(zip(x, y)) -/
def zipT (xs ys : List D) : List D := (xs.zip ys).map fun p => .tup [p.1, p.2]
def pZip (x y : W) (M : Mm) : Oc W := match sv M x, sv M y with
  | some xs, some ys => okD (.lst (zipT xs ys)) M
  | _, _ => .bad
end
end EV

set_option Elab.async false
set_option linter.all false
set_option maxRecDepth 100000
set_option maxHeartbeats 4000000
namespace RT
open PySem PySem.Spec PyProof.Rows
abbrev rvObj (l : Addr) (i : Int) : Obj := { cls := .type "reversed", dict := none, data := .fields #[.ref l, rawInt i], slots := #[] }
end RT

set_option Elab.async false
set_option linter.all false
set_option maxRecDepth 100000
set_option maxHeartbeats 4000000
namespace RT
open PySem PySem.Spec PyProof.Rows
section
variable {prog : Program} {w : World} {A : Around} {E : Value → Shared → Prop} {s : Shared}
def IsRvT (h : Heap) (a l : Addr) (i : Int) : Prop := ∃ o, h.get? a = some o ∧ o.cls = .type "reversed" ∧ o.data = .fields #[.ref l, rawInt i]
theorem IsRvT.typeIs {a l : Addr} {i : Int} (x : IsRvT s.heap a l i) : s.TypeIs (.ref a) "reversed" := let ⟨o, ho, hc, _⟩ := x; ⟨o, ho, hc⟩
theorem IsRvT.at {h h' : Heap} {a l : Addr} {i : Int} (x : IsRvT h a l i) (e : ∀ o, h.get? a = some o → h'.get? a = some o) : IsRvT h' a l i := let ⟨o, ho, r⟩ := x; ⟨o, e _ ho, r⟩
end
end RT

set_option Elab.async false
set_option linter.all false
set_option maxRecDepth 100000
set_option maxHeartbeats 4000000
namespace L2
open PySem PySem.Spec PyProof.Rows
/-- reversed(t): the tuple from its end on -/
def Itw (K : PySem.W.Frag) (a : Addr) (xs : List V) : It :=
  ⟨fun i H => SqT K H a xs ∧ i < xs.length, fun i H x H' => H' = H ∧ xs[xs.length - 1 - i]? = some x, fun i _ => xs.length ≤ i⟩
def iRvE (K : PySem.W.Frag) (ta : TA) : TI := fun σ H R => ta σ H fun vs H1 => ∃ a, vs = [.ref a] ∧ ((∃ xs, SqL K H1 a xs ∧ R (Itv K a xs) H1) ∨ (∃ xs, SqT K H1 a xs ∧ R (Itw K a xs) H1))
end L2
namespace EV
open PySem PySem.Spec PyProof.Rows L2
def iRv (f : FE) : FI := fun L M => (f L M).bind fun w M1 => match w with
  | .d (.tup xs) => .ok ⟨xs.reverse, none⟩ M1
  | .d (.lst xs) => .ok ⟨xs.reverse, none⟩ M1
  | .d (.fz xs) => .ok ⟨xs.reverse, none⟩ M1
  | _ => .bad
section
variable {X : Cx} {K : PySem.W.Frag} {Z : Zt} {μ : List Addr} {H : Hp} {M : Mm} {a : Expr} {pos : Pos} {f : FE} {tg : Expr}
end
end EV

set_option Elab.async false
set_option linter.all false
set_option maxRecDepth 100000
set_option maxHeartbeats 4000000
namespace EV
open PySem PySem.Spec PyProof.Rows L2
section
variable {X : Cx} {K : PySem.W.Frag} {Z : Zt} {μ : List Addr} {H : Hp} {M : Mm} {a : Expr} {pos pos2 : Pos} {f : FE}
def rInts (n : Nat) : List Int := (List.range n).map fun k => (0 : Int) + (k : Nat)
def rLR : List V → Hp → VK → Prop := fun xs H Q => ∃ p j, xs = [.ref p] ∧ H p = some (.rng 0 j) ∧ 0 ≤ j ∧ j ≤ 16777216 ∧ ∀ l, H l = none → Q (.ref l) (upd H l (.lst ((rInts j.toNat).map V.int)))
theorem vals_ints {n : Nat} {acc : Array Value} (h : ItemsOf (fun i v => ∃ t, v = .int ((0 : Int) + i * 1) t) acc n) : Vals ((rInts n).map V.int) acc.toList := by
  have key : ∀ (l : List Value) (k : Nat), (∀ j v, l[j]? = some v → ∃ t, v = Value.int ((0 : Int) + ((k + j : Nat) : Int)) t) → Vals ((List.range' k l.length).map fun i => V.int ((0 : Int) + (i : Nat))) l := by
    intro l
    induction l with
    | nil => intro k _; exact .nil
    | cons x r ih =>
      intro k hk
      rw [List.length_cons, List.range'_succ, List.map_cons]
      refine .cons ?_ (ih (k + 1) fun j v e => ?_)
      · obtain ⟨t, e⟩ := hk 0 x rfl
        exact ⟨t, by simpa using e⟩
      · obtain ⟨t, e'⟩ := hk (j + 1) v (by simpa using e)
        exact ⟨t, by rw [e']; congr 2; omega⟩
  have hl : acc.toList.length = n := h.1
  have := key acc.toList 0 fun j v e => by
    obtain ⟨t, e'⟩ := h.2 j v (by simpa using e)
    exact ⟨t, by rw [e']; first | rfl | (congr 1 <;> omega)⟩
  rw [hl] at this
  unfold rInts
  rw [List.map_map, List.range_eq_range']
  exact this
def cLR (w : W) (M : Mm) : Oc W := match w with
  | .d (.int j) => if 0 ≤ j ∧ j ≤ 16777216 then okD (.lst (rngD 0 j.toNat)) M else .bad
  | _ => .bad
def cLRR (w : W) (M : Mm) : Oc W := match w with
  | .d (.int j) => if 0 ≤ j ∧ j ≤ 16777216 then .ok (.ref M.length) (M ++ [rngD 0 j.toNat]) else .bad
  | _ => .bad
abbrev eListRange1 (f : FE) : FE := e1 cLR f
abbrev eListRange1R (f : FE) : FE := e1 cLRR f
theorem boot_range' : bootBuiltins "range" = some (.type "range") := by first | rfl | kernel_rfl
end
end EV

set_option Elab.async false
set_option linter.all false
set_option maxRecDepth 100000
set_option maxHeartbeats 4000000
namespace EV
open PySem L2
/-- it comes to an end with .. -/
@[irreducible] def Ok {α : Type} (o : Oc α) (Q : α → Mm → Prop) : Prop := ∃ a M, o = .ok a M ∧ Q a M
theorem Ok_def {α : Type} {o : Oc α} {Q : α → Mm → Prop} : Ok o Q ↔ ∃ a M, o = .ok a M ∧ Q a M := by unfold Ok; rfl
theorem ok_ok {α : Type} {a : α} {M : Mm} {Q : α → Mm → Prop} (q : Q a M) : Ok (.ok a M) Q := Ok_def.mpr ⟨a, M, rfl, q⟩
theorem Ok_bind {α β : Type} {o : Oc α} {k : α → Mm → Oc β} {Q : β → Mm → Prop} : Ok (o.bind k) Q ↔ Ok o fun a M => Ok (k a M) Q := by
  constructor
  · intro h
    obtain ⟨b, M, e, q⟩ := Ok_def.mp h
    cases o with
    | ok a M1 => exact ok_ok (Ok_def.mpr ⟨b, M, e, q⟩)
    | ex x M1 => cases e
    | bad => cases e
  · intro h; obtain ⟨a, M1, e, h2⟩ := Ok_def.mp h; subst e; exact h2
theorem ok_bind {α β : Type} {o : Oc α} {k : α → Mm → Oc β} {Q : β → Mm → Prop} (h : Ok o fun a M => Ok (k a M) Q) : Ok (o.bind k) Q := Ok_bind.mpr h
theorem Ok.mono {α : Type} {o : Oc α} {Q Q' : α → Mm → Prop} (h : Ok o Q) (f : ∀ a M, Q a M → Q' a M) : Ok o Q' := let ⟨a, M, e, q⟩ := Ok_def.mp h; Ok_def.mpr ⟨a, M, e, f a M q⟩
theorem Ok.eq {α : Type} {o o' : Oc α} {Q : α → Mm → Prop} (h : Ok o' Q) (e : o = o') : Ok o Q := e ▸ h
/-! ### ifs -/
theorem ok_if {α : Type} {c : Bool} {a b : Oc α} {Q : α → Mm → Prop} (h1 : c = true → Ok a Q) (h2 : c = false → Ok b Q) : Ok (if c = true then a else b) Q := by cases c <;> simp_all
theorem ok_ifd {α : Type} {p : Prop} [Decidable p] {a b : Oc α} {Q : α → Mm → Prop} (h1 : p → Ok a Q) (h2 : ¬ p → Ok b Q) : Ok (if decide p = true then a else b) Q := by by_cases h : p <;> simp_all
theorem ok_ifn {α : Type} {p : Prop} [Decidable p] {a b : Oc α} {Q : α → Mm → Prop} (h1 : p → Ok b Q) (h2 : ¬ p → Ok a Q) : Ok (if (!decide p) = true then a else b) Q := by by_cases h : p <;> simp_all
theorem ok_ifT {α : Type} {c : Bool} {a b : Oc α} {Q : α → Mm → Prop} (h : c = true) (h1 : Ok a Q) : Ok (if c = true then a else b) Q := by rw [if_pos h]; exact h1
theorem ok_ifF {α : Type} {c : Bool} {a b : Oc α} {Q : α → Mm → Prop} (h : c = false) (h1 : Ok b Q) : Ok (if c = true then a else b) Q := by rw [if_neg (by simp [h])]; exact h1
section
variable {L : Lc} {M : Mm} {i j : Nat} {w x y : W} {Q : W → Mm → Prop} {QA : List W → Mm → Prop} {QS : Out → Mm → Prop} {QT : Bool → Mm → Prop} {QG : Lc → Mm → Prop} {f g h : FE} {F G : FS} {t u : FT} {fs : FA} {gg : FG}
/-! ### expressions -/
theorem ok_V (h : L[i]? = some (some w)) (q : Q w M) : Ok (eV i L M) Q := by unfold eV; rw [h]; exact ok_ok q
theorem ok_C {d : D} (q : Q (.d d) M) : Ok (eC d L M) Q := ok_ok q
theorem ok_ints {ns : List Int} (q : Q (.d (.lst (ns.map D.int))) M) : Ok (eInts ns L M) Q := ok_ok q
theorem ok_e1 {p : W → Mm → Oc W} (h : Ok (f L M) fun x M1 => Ok (p x M1) Q) : Ok (e1 p f L M) Q := ok_bind h
theorem ok_e2 {p : W → W → Mm → Oc W} (h : Ok (f L M) fun x M1 => Ok (g L M1) fun y M2 => Ok (p x y M2) Q) : Ok (e2 p f g L M) Q := ok_bind (h.mono fun _ _ z => ok_bind z)
theorem ok_A {p : List W → Mm → Oc W} (h : Ok (fs L M) fun ws M1 => Ok (p ws M1) Q) : Ok (eA p fs L M) Q := ok_bind h
theorem ok_aN (q : QA [] M) : Ok (aNil L M) QA := ok_ok q
theorem ok_aC (h : Ok (f L M) fun w M1 => Ok (fs L M1) fun ws M2 => QA (w :: ws) M2) : Ok (aCons f fs L M) QA := ok_bind (h.mono fun _ _ z => ok_bind (z.mono fun _ _ z => ok_ok z))
theorem ok_And (h : Ok (f L M) fun w M1 => ∃ b, w = .d (.bl b) ∧ (b = true → Ok (g L M1) Q) ∧ (b = false → Q (.d (.bl false)) M1)) : Ok (eAnd f g L M) Q := by
  refine ok_bind (h.mono fun w M1 ⟨b, e, h1, h2⟩ => ?_)
  subst e
  cases b with
  | true => exact h1 rfl
  | false => exact ok_ok (h2 rfl)
theorem ok_Or (h : Ok (f L M) fun w M1 => ∃ b, w = .d (.bl b) ∧ (b = true → Q (.d (.bl true)) M1) ∧ (b = false → Ok (g L M1) Q)) : Ok (eOr f g L M) Q := by
  refine ok_bind (h.mono fun w M1 ⟨b, e, h1, h2⟩ => ?_)
  subst e
  cases b with
  | true => exact ok_ok (h1 rfl)
  | false => exact h2 rfl
theorem ok_If (h : Ok (t L M) fun c M1 => Ok (if c = true then f L M1 else g L M1) Q) : Ok (eIf t f g L M) Q := ok_bind h
/-! ### tests -/
theorem ok_tB (h : Ok (f L M) fun w M1 => ∃ b, w = .d (.bl b) ∧ QT b M1) : Ok (EV.tB f L M) QT := ok_bind (h.mono fun w M1 ⟨b, e, q⟩ => by subst e; exact ok_ok q)
theorem ok_tV (h : Ok (f L M) fun w M1 => ∃ b, tru M1 w = some b ∧ QT b M1) : Ok (tV f L M) QT := ok_bind (h.mono fun w M1 ⟨b, e, q⟩ => by rw [e]; exact ok_ok q)
theorem ok_tNot (h : Ok (t L M) fun b M1 => QT (!b) M1) : Ok (EV.tNot t L M) QT := ok_bind (h.mono fun _ _ z => ok_ok z)
theorem ok_tAnd (h : Ok (t L M) fun b M1 => (b = true → Ok (u L M1) QT) ∧ (b = false → QT false M1)) : Ok (EV.tAnd t u L M) QT := ok_bind (h.mono fun b M1 ⟨h1, h2⟩ => by cases b with | true => exact h1 rfl | false => exact ok_ok (h2 rfl))
theorem ok_tOr (h : Ok (t L M) fun b M1 => (b = true → QT true M1) ∧ (b = false → Ok (u L M1) QT)) : Ok (EV.tOr t u L M) QT := ok_bind (h.mono fun b M1 ⟨h1, h2⟩ => by cases b with | true => exact ok_ok (h1 rfl) | false => exact h2 rfl)
theorem ok_tYes (q : QT true M) : Ok (EV.tYes L M) QT := ok_ok q
/-! ### statements -/
theorem ok_nil (q : QS (.nx L) M) : Ok (sNil L M) QS := ok_ok q
theorem ok_seq (h : Ok (F L M) fun o M1 => match o with
  | .nx L1 => Ok (G L1 M1) QS
  | .bk L1 => QS (.bk L1) M1
  | .ct L1 => QS (.ct L1) M1
  | .rt w => QS (.rt w) M1) : Ok (sSeq F G L M) QS := ok_bind (h.mono fun o M1 z => by cases o with | nx L1 => exact z | bk L1 => exact ok_ok z | ct L1 => exact ok_ok z | rt w => exact ok_ok z)
theorem ok_bk (q : QS (.bk L) M) : Ok (sBk L M) QS := ok_ok q
theorem ok_ct (q : QS (.ct L) M) : Ok (sCt L M) QS := ok_ok q
theorem ok_ex (h : Ok (f L M) fun _ M1 => QS (.nx L) M1) : Ok (sEx f L M) QS := ok_bind (h.mono fun _ _ z => ok_ok z)
theorem ok_rt (h : Ok (f L M) fun w M1 => QS (.rt w) M1) : Ok (sRt f L M) QS := ok_bind (h.mono fun _ _ z => ok_ok z)
theorem ok_sIf (h : Ok (t L M) fun b M1 => Ok (if b = true then F L M1 else G L M1) QS) : Ok (sIf t F G L M) QS := ok_bind h
theorem ok_sAs (h : Ok (f L M) fun w M1 => Ok (gg w L M1) fun L1 M2 => QS (.nx L1) M2) : Ok (sAs f gg L M) QS := ok_bind (h.mono fun _ _ z => ok_bind (z.mono fun _ _ z => ok_ok z))
theorem ok_sPar (h : Ok (fs L M) fun ws M1 => ∃ v w, ws = [v, w] ∧ QS (.nx ((L.set i (some v)).set j (some w))) M1) : Ok (sPar i j fs L M) QS := ok_bind (h.mono fun ws M1 ⟨v, w, e, q⟩ => by subst e; exact ok_ok q)
/-! ### targets -/
theorem ok_gN (q : QG (L.set i (some w)) M) : Ok (gN i w L M) QG := ok_ok q
theorem ok_gT {n : Nat} {gs : FGs} {xs : List D} (hn : xs.length = n) (h : Ok (gs xs L M) QG) : Ok (gT n gs (.d (.tup xs)) L M) QG := by unfold gT; simp only; rw [if_pos hn]; exact h
theorem ok_gsN (q : QG L M) : Ok (gsNil [] L M) QG := ok_ok q
theorem ok_gsC {gs : FGs} {d : D} {ds : List D} (h : Ok (gg (.d d) L M) fun L1 M1 => Ok (gs ds L1 M1) QG) : Ok (gsCons gg gs (d :: ds) L M) QG := ok_bind h
theorem ok_gS {d : D} (h : Ok (f L M) fun o M1 => Ok (g L M1) fun i M2 => ∃ k j xs t, o = .ref k ∧ i = .d (.int j) ∧ M2[k]? = some xs ∧ ixN xs.length j = some t ∧ QG L (M2.set k (xs.set t d))) : Ok (gS f g (.d d) L M) QG := by
  refine ok_bind (h.mono fun o M1 z => ok_bind (z.mono fun i M2 ⟨k, j, xs, t, e1, e2, e3, e4, q⟩ => ?_))
  subst e1 e2
  simp only [e3, e4]
  exact ok_ok q
/-! ### operations -/
theorem ok_pI {c : Int → Int → Bool} {gg : Int → Int → D} {i j : Int} (hc : c i j = true) (q : Q (.d (gg i j)) M) : Ok (pI c gg (.d (.int i)) (.d (.int j)) M) Q := by unfold pI; simp only; rw [if_pos hc]; exact ok_ok q
theorem ok_add {i j : Int} (q : Q (.d (.int (i + j))) M) : Ok (pAdd (.d (.int i)) (.d (.int j)) M) Q := ok_ok q
theorem ok_addT {xs ys : List D} (hz : xs.length + ys.length ≤ 16777216) (q : Q (.d (.tup (xs ++ ys))) M) : Ok (pAdd (.d (.tup xs)) (.d (.tup ys)) M) Q := by unfold pAdd; simp only; rw [if_pos hz]; exact ok_ok q
theorem ok_addL {xs ys : List D} (h1 : lv M x = some xs) (h2 : lv M y = some ys) (hz : xs.length + ys.length ≤ 16777216) (q : Q (.d (.lst (xs ++ ys))) M) : Ok (pAdd x y M) Q := by
  have : pAdd x y M = .ok (.d (.lst (xs ++ ys))) M := by
    cases x with
    | ref i => simp only [pAdd, h1, h2]; rw [if_pos hz]
    | d a => cases a <;> simp only [lv, reduceCtorEq] at h1
             cases y with
             | ref i => cases h1; simp only [lv] at h2; simp only [pAdd, lv, h2]; rw [if_pos hz]
             | d b => cases b <;> simp only [lv, reduceCtorEq] at h2
                      simp only [pAdd, lv]; cases h1; cases h2; rw [if_pos hz]
  rw [this]; exact ok_ok q
theorem ok_mul {i j : Int} (hz : mulOk i j = true) (q : Q (.d (.int (i * j))) M) : Ok (pMulA (.d (.int i)) (.d (.int j)) M) Q := by unfold pMulA pMul; simp only; rw [if_pos hz]; exact ok_ok q
theorem ok_neg {i : Int} (q : Q (.d (.int (-i))) M) : Ok (pNeg (.d (.int i)) M) Q := ok_ok q
theorem ok_not {b : Bool} (q : Q (.d (.bl (!b))) M) : Ok (pNot (.d (.bl b)) M) Q := ok_ok q
theorem ok_eq {a b : D} (h1 : wd M x = some a) (h2 : wd M y = some b) (hd : dep a ≤ 100) (q : Q (.d (.bl (eqD a b))) M) : Ok (pEq x y M) Q := by unfold pEq; rw [h1, h2]; simp only; rw [if_pos hd]; exact ok_ok q
theorem ok_ne {a b : D} (h1 : wd M x = some a) (h2 : wd M y = some b) (hd : dep a ≤ 100) (q : Q (.d (.bl (!eqD a b))) M) : Ok (pNe x y M) Q := by unfold pNe; rw [h1, h2]; simp only; rw [if_pos hd]; exact ok_ok q
theorem ok_eqI {i j : Int} (q : Q (.d (.bl (decide (i = j)))) M) : Ok (pEq (.d (.int i)) (.d (.int j)) M) Q := ok_eq rfl rfl (by simp [dep]) (by simp only [eqD]; exact q)
theorem ok_neI {i j : Int} (q : Q (.d (.bl (!decide (i = j)))) M) : Ok (pNe (.d (.int i)) (.d (.int j)) M) Q := ok_ne rfl rfl (by simp [dep]) (by simp only [eqD]; exact q)
theorem ok_eqS {a b : Str} (q : Q (.d (.bl (a == b))) M) : Ok (pEq (.d (.str a)) (.d (.str b)) M) Q := ok_eq rfl rfl (by simp [dep]) (by simpa only [eqD] using q)
theorem ok_neS {a b : Str} (q : Q (.d (.bl (!(a == b)))) M) : Ok (pNe (.d (.str a)) (.d (.str b)) M) Q := ok_ne rfl rfl (by simp [dep]) (by simpa only [eqD] using q)
theorem ok_neB {a b : Bool} (q : Q (.d (.bl (!(a == b)))) M) : Ok (pNe (.d (.bl a)) (.d (.bl b)) M) Q := ok_ne rfl rfl (by simp [dep]) (by simpa only [eqD] using q)
theorem ok_eqB {a b : Bool} (q : Q (.d (.bl (a == b))) M) : Ok (pEq (.d (.bl a)) (.d (.bl b)) M) Q := ok_eq rfl rfl (by simp [dep]) (by simpa only [eqD] using q)
theorem ok_is (q : Q (.d (.bl (isN x))) M) : Ok (pIs x (.d .non) M) Q := ok_ok q
theorem ok_isnot (q : Q (.d (.bl (!isN x))) M) : Ok (pIsNot x (.d .non) M) Q := ok_ok q
theorem ok_ixT {xs : List D} {k : Int} {d : D} (h : atI xs k = some d) (q : Q (.d d) M) : Ok (pIx (.d (.tup xs)) (.d (.int k)) M) Q := by unfold pIx; simp only [sv, h]; exact ok_ok q
theorem ok_ix {xs : List D} {k : Int} {d : D} (hs : ∀ z, x ≠ .d (.str z)) (h1 : sv M x = some xs) (h : atI xs k = some d) (q : Q (.d d) M) : Ok (pIx x (.d (.int k)) M) Q := by
  have : pIx x (.d (.int k)) M = .ok (.d d) M := by
    cases x with
    | ref i => simp only [pIx, h1, h]
    | d a => cases a <;> first | (exact (hs _ rfl).elim) | (simp only [pIx, h1, h])
  rw [this]; exact ok_ok q
theorem ok_ixL {xs : List D} {k : Int} {d : D} (h : atI xs k = some d) (q : Q (.d d) M) : Ok (pIx (.d (.lst xs)) (.d (.int k)) M) Q := ok_ix (by simp) rfl h q
theorem ok_ixF {xs : List D} {k : Int} {d : D} (h : atI xs k = some d) (q : Q (.d d) M) : Ok (pIx (.d (.fz xs)) (.d (.int k)) M) Q := ok_ix (by simp) rfl h q
theorem ok_ixR {b : Nat} {xs : List D} {k : Int} {d : D} (h1 : M[b]? = some xs) (h : atI xs k = some d) (q : Q (.d d) M) : Ok (pIx (.ref b) (.d (.int k)) M) Q := ok_ix (by simp) h1 h q
theorem ok_mkT {ws : List W} {ds : List D} (h : allD ws = some ds) (hz : ds.length ≤ 16777216) (q : Q (.d (.tup ds)) M) : Ok (mkT ws M) Q := by unfold mkT; rw [h]; simp only; rw [if_pos hz]; exact ok_ok q
theorem ok_mkL {ws : List W} {ds : List D} (h : allD ws = some ds) (hz : ds.length ≤ 16777216) (q : Q (.d (.lst ds)) M) : Ok (mkL ws M) Q := by unfold mkL; rw [h]; simp only; rw [if_pos hz]; exact ok_ok q
theorem ok_mkR {ws : List W} {ds : List D} (h : allD ws = some ds) (hz : ds.length ≤ 16777216) (q : Q (.ref M.length) (M ++ [ds])) : Ok (mkR ws M) Q := by unfold mkR; rw [h]; simp only; rw [if_pos hz]; exact ok_ok q
theorem ok_len {xs : List D} (hs : ∀ z, x ≠ .d (.str z)) (h : sv M x = some xs) (q : Q (.d (.int xs.length)) M) : Ok (cLen [x] M) Q := by
  have : cLen [x] M = .ok (.d (.int xs.length)) M := by
    cases x with
    | ref i => simp only [cLen, h]
    | d a => cases a <;> first | (exact (hs _ rfl).elim) | (simp only [cLen, h])
  rw [this]; exact ok_ok q
theorem ok_lenT {xs : List D} (q : Q (.d (.int xs.length)) M) : Ok (cLen [.d (.tup xs)] M) Q := ok_ok q
theorem ok_lenL {xs : List D} (q : Q (.d (.int xs.length)) M) : Ok (cLen [.d (.lst xs)] M) Q := ok_ok q
theorem ok_lenF {xs : List D} (q : Q (.d (.int xs.length)) M) : Ok (cLen [.d (.fz xs)] M) Q := ok_ok q
theorem ok_lenR {b : Nat} {xs : List D} (h : M[b]? = some xs) (q : Q (.d (.int xs.length)) M) : Ok (cLen [.ref b] M) Q := ok_len (by simp) h q
theorem ok_intB {b : Bool} (q : Q (.d (.int (if b = true then 1 else 0))) M) : Ok (cInt [.d (.bl b)] M) Q := ok_ok q
theorem ok_intI {k : Int} (q : Q (.d (.int k)) M) : Ok (cInt [.d (.int k)] M) Q := ok_ok q
theorem ok_max {k l : Int} (q : Q (.d (.int (if l > k then l else k))) M) : Ok (cMax2 [.d (.int k), .d (.int l)] M) Q := ok_ok q
theorem ok_min {k l : Int} (q : Q (.d (.int (if l < k then l else k))) M) : Ok (cMin2 [.d (.int k), .d (.int l)] M) Q := ok_ok q
theorem ok_tup {xs : List D} (h : sv M x = some xs) (q : Q (.d (.tup xs)) M) : Ok (cTup [x] M) Q := by unfold cTup; simp only [h]; exact ok_ok q
theorem ok_isi {T : String} {b : Bool} (h : isT T M x = some b) (q : Q (.d (.bl b)) M) : Ok (pIsI T x M) Q := by unfold pIsI; rw [h]; exact ok_ok q
theorem ok_M1 {p : W → W → Mm → Oc W} (h : Ok (f L M) fun x M1 => ∃ k, x = .ref k ∧ Ok (g L M1) fun y M2 => Ok (p (.ref k) y M2) Q) : Ok (eM1 p f g L M) Q := ok_bind (h.mono fun x M1 ⟨k, e, z⟩ => by subst e; exact ok_bind z)
theorem ok_append {k : Nat} {d : D} {xs : List D} (h : M[k]? = some xs) (hz : xs.length < 16777216) (q : Q (.d .non) (M.set k (xs ++ [d]))) : Ok (pAppend (.ref k) (.d d) M) Q := by unfold pAppend; simp only [h]; rw [if_pos hz]; exact ok_ok q
theorem ok_Sl {fl fh : FO} (z : Ok (f L M) fun x M1 => Ok (fl L M1) fun lo M2 => Ok (fh L M2) fun hi M3 => Ok (pSl x lo hi M3) Q) : Ok (eSl f fl fh L M) Q := ok_bind (z.mono fun _ _ z => ok_bind (z.mono fun _ _ z => ok_bind z))
theorem ok_SlR {fl fh : FO} (z : Ok (f L M) fun x M1 => Ok (fl L M1) fun lo M2 => Ok (fh L M2) fun hi M3 => Ok (pSlR x lo hi M3) Q) : Ok (eSlR f fl fh L M) Q := ok_bind (z.mono fun _ _ z => ok_bind (z.mono fun _ _ z => ok_bind z))
theorem ok_oNo {QO : Option Int → Mm → Prop} (q : QO none M) : Ok (oNo L M) QO := ok_ok q
theorem ok_oAt {QO : Option Int → Mm → Prop} (h : Ok (f L M) fun w M1 => ∃ k, w = .d (.int k) ∧ QO (some k) M1) : Ok (oAt f L M) QO := ok_bind (h.mono fun w M1 ⟨k, e, q⟩ => by subst e; exact ok_ok q)
theorem ok_slT {xs : List D} {lo hi : Option Int} (q : Q (.d (.tup (cut xs lo hi))) M) : Ok (pSl (.d (.tup xs)) lo hi M) Q := ok_ok q
theorem ok_slL {xs : List D} {lo hi : Option Int} (hs : ∀ z, x ≠ .d (.tup z)) (h : lr M x = some xs) (q : Q (.d (.lst (cut xs lo hi))) M) : Ok (pSl x lo hi M) Q := by
  have : pSl x lo hi M = okD (.lst (cut xs lo hi)) M := by
    cases x with
    | ref i => simp only [pSl, h]
    | d a => cases a <;> first | (exact (hs _ rfl).elim) | (simp only [pSl, h])
  rw [this]; exact ok_ok q
/-! ### loops -/
theorem ok_for {fi : FI} {B : FS} (h : Ok (fi L M) fun s M1 => Ok (forD s gg B s.ds L M1) QS) : Ok (sFor fi gg B L M) QS := ok_bind h
theorem ok_iE {s : Src} {QI : Src → Mm → Prop} (h : Ok (f L M) fun w M1 => ∃ s, srcOf M1 w = some s ∧ QI s M1) : Ok (iE f L M) QI := ok_bind (h.mono fun w M1 ⟨s, e, q⟩ => by rw [e]; exact ok_ok q)
theorem ok_iR1 {QI : Src → Mm → Prop} (h : Ok (f L M) fun w M1 => ∃ j, w = .d (.int j) ∧ in62 j = true ∧ QI ⟨rngD 0 j.toNat, none⟩ M1) : Ok (iR1 f L M) QI := ok_bind (h.mono fun w M1 ⟨j, e, hz, q⟩ => by subst e; simp only; rw [if_pos hz]; exact ok_ok q)
theorem ok_iR2 {QI : Src → Mm → Prop} (h : Ok (f L M) fun w M1 => Ok (g L M1) fun u M2 => ∃ i j, w = .d (.int i) ∧ u = .d (.int j) ∧ (in62 i = true ∧ in62 j = true) ∧ QI ⟨rngD i (j - i).toNat, none⟩ M2) : Ok (iR2 f g L M) QI :=
  ok_bind (h.mono fun w M1 z => ok_bind (z.mono fun u M2 ⟨i, j, e1, e2, hz, q⟩ => by subst e1 e2; simp only; rw [if_pos hz]; exact ok_ok q))
/-- a for, by an invariant over the items that are done -/
theorem forD_inv {s : Src} {B : FS} (I : Nat → Lc → Mm → Prop) (h0 : I 0 L M) (hc : ∀ i L M, i ≤ s.ds.length → I i L M → Chk s M)
    (hs : ∀ i d L M, s.ds[i]? = some d → I i L M → Ok (gg (.d d) L M) fun L1 M1 => Ok (B L1 M1) fun o M2 => match o with
      | .nx L2 => I (i + 1) L2 M2
      | .ct L2 => I (i + 1) L2 M2
      | .bk L2 => QS (.nx L2) M2
      | .rt w => QS (.rt w) M2) (hd : ∀ L M, I s.ds.length L M → QS (.nx L) M) : Ok (forD s gg B s.ds L M) QS := by
  have key : ∀ k i L M, s.ds.length - i = k → i ≤ s.ds.length → I i L M → Ok (forD s gg B (s.ds.drop i) L M) QS := by
    intro k
    induction k with
    | zero =>
      intro i L M e hi hI
      have : i = s.ds.length := by omega
      subst this
      rw [List.drop_eq_nil_of_le (Nat.le_refl _)]
      unfold forD
      rw [if_pos (hc _ L M (Nat.le_refl _) hI)]
      exact ok_ok (hd L M hI)
    | succ k ih =>
      intro i L M e hi hI
      have hlt : i < s.ds.length := by omega
      rw [List.drop_eq_getElem_cons hlt]
      unfold forD
      rw [if_pos (hc _ L M hi hI)]
      refine ok_bind ((hs i s.ds[i] L M (by simp [hlt]) hI).mono fun L1 M1 z => ok_bind (z.mono fun o M2 z => ?_))
      cases o with
      | nx L2 => exact ih (i + 1) L2 M2 (by omega) (by omega) z
      | ct L2 => exact ih (i + 1) L2 M2 (by omega) (by omega) z
      | bk L2 => exact ok_ok z
      | rt w => exact ok_ok z
  simpa using key s.ds.length 0 L M (by omega) (by omega) h0
/-- a while, by an invariant and a measure -/
theorem while_inv {t : FT} {B : FS} (I : Nat → Lc → Mm → Prop) (hs : ∀ m L M, I m L M → Ok (t L M) fun b M1 => (b = true → Ok (B L M1) fun o M2 => match o with
      | .nx L2 => ∃ m', m' < m ∧ I m' L2 M2
      | .ct L2 => ∃ m', m' < m ∧ I m' L2 M2
      | .bk L2 => QS (.nx L2) M2
      | .rt w => QS (.rt w) M2) ∧ (b = false → QS (.nx L) M1)) : ∀ (n m : Nat) (L : Lc) (M : Mm), I m L M → m < n → Ok (whileD t B n L M) QS := by
  intro n
  induction n with
  | zero => intro m L M _ h; omega
  | succ n ih =>
    intro m L M hI hm
    unfold whileD
    refine ok_bind ((hs m L M hI).mono fun b M1 ⟨h1, h2⟩ => ?_)
    cases b with
    | false => exact ok_ok (h2 rfl)
    | true =>
      refine ok_bind ((h1 rfl).mono fun o M2 z => ?_)
      cases o with
      | nx L2 => obtain ⟨m', l, z⟩ := z; exact ih m' L2 M2 z (by omega)
      | ct L2 => obtain ⟨m', l, z⟩ := z; exact ih m' L2 M2 z (by omega)
      | bk L2 => exact ok_ok z
      | rt w => exact ok_ok z
/-- a comprehension, by what is made of each item -/
theorem comp_inv {js : List (Option Nat)} {fi : FI} {c : FT} (I : Nat → List D → Lc → Mm → Prop)
    (h : Ok (fi L M) fun s M1 => (I 0 [] (outL js L) M1 ∧ (∀ i acc L M, i ≤ s.ds.length → I i acc L M → M.length = M1.length ∧ Chk s (M ++ [acc]) ∧ acc.length ≤ i) ∧ s.ds.length ≤ 16777216 ∧
      (∀ i d acc L M, s.ds[i]? = some d → I i acc L M → Ok (gg (.d d) L (M ++ [acc])) fun L1 M2 => Ok (c L1 M2) fun b M3 => (b = true → Ok (f L1 M3) fun w M4 => ∃ x M5, w = .d x ∧ M4 = M5 ++ [acc] ∧ I (i + 1) (acc ++ [x]) L1 M5) ∧ (b = false → ∃ M5, M3 = M5 ++ [acc] ∧ I (i + 1) acc L1 M5)) ∧
      (∀ acc L M, I s.ds.length acc L M → Q (.d (.lst acc)) M))) : Ok (eComp js fi gg c f L M) Q := by
  unfold eComp compT
  refine ok_bind (ok_bind (h.mono fun s M1 ⟨h0, hc, hz, hs, hd⟩ => ?_))
  have key : ∀ k i acc L M, s.ds.length - i = k → i ≤ s.ds.length → I i acc L M → ∃ acc' L' M', compD M1.length s gg c f (s.ds.drop i) L (M ++ [acc]) = .ok () (M' ++ [acc']) ∧ I s.ds.length acc' L' M' := by
    intro k
    induction k with
    | zero =>
      intro i acc L M e hi hI
      have : i = s.ds.length := by omega
      subst this
      rw [List.drop_eq_nil_of_le (Nat.le_refl _)]
      unfold compD
      rw [if_pos (hc _ acc L M (Nat.le_refl _) hI).2.1]
      exact ⟨acc, L, M, rfl, hI⟩
    | succ k ih =>
      intro i acc L M e hi hI
      have hlt : i < s.ds.length := by omega
      rw [List.drop_eq_getElem_cons hlt]
      unfold compD
      obtain ⟨hl, hch, hal⟩ := hc _ acc L M hi hI
      rw [if_pos hch]
      obtain ⟨L1, M2, e1, hh⟩ := Ok_def.mp (hs i s.ds[i] acc L M (by simp [hlt]) hI)
      obtain ⟨L1', M3, e2, h1, h2⟩ := Ok_def.mp hh
      rw [e1]
      simp only [bind_ok]
      rw [e2]
      simp only [bind_ok]
      cases L1' with
      | false =>
        obtain ⟨M5, e3, hI'⟩ := h2 rfl
        subst e3
        simp only [Bool.false_eq_true, if_false]
        exact ih (i + 1) acc L1 M5 (by omega) (by omega) hI'
      | true =>
        obtain ⟨w, M4, e3, x, M5, rfl, rfl, hI'⟩ := Ok_def.mp (h1 rfl)
        simp only [if_true]
        rw [e3]
        simp only [bind_ok]
        have hl5 := (hc _ _ _ _ (by omega) hI').1
        have g1 : (M5 ++ [acc])[M1.length]? = some acc := by rw [← hl5]; simp
        rw [g1]
        simp only
        rw [if_pos (by omega)]
        have g2 : (M5 ++ [acc]).set M1.length (acc ++ [x]) = M5 ++ [acc ++ [x]] := by rw [← hl5]; simp
        rw [g2]
        exact ih (i + 1) (acc ++ [x]) L1 M5 (by omega) (by omega) hI'
  obtain ⟨acc, L', M', e, hI⟩ := key s.ds.length 0 [] (outL js L) M1 (by omega) (by omega) h0
  rw [List.drop_zero] at e
  rw [e]
  have hl := (hc _ _ _ _ (Nat.le_refl _) hI).1
  have g1 : (M' ++ [acc])[M1.length]? = some acc := by rw [← hl]; simp
  have g2 : (M' ++ [acc]).take M1.length = M' := by rw [← hl]; simp
  simp only [g1, g2]
  exact ok_ok (ok_ok (hd acc L' M' hI))
/-! ### defs -/
theorem ok_fn {m n : Nat} {F : FS} {ws : List W} (hm : ws.length = m) (h : Ok (F (ws.map some ++ List.replicate (n - ws.length) none) M) fun o M' => match o with
    | .rt w => Ok (retc M.length w M') Q
    | .nx _ => Q (.d .non) (M'.take M.length)
    | _ => False) : Ok (fnD m n F ws M) Q := by
  unfold fnD
  rw [if_pos hm]
  refine ok_bind (h.mono fun o M' z => ?_)
  cases o with
  | rt w => exact z
  | nx L => exact ok_ok z
  | bk L => exact z.elim
  | ct L => exact z.elim
theorem ok_retD {n : Nat} {d : D} (q : Q (.d d) (M.take n)) : Ok (retc n (.d d) M) Q := ok_ok q
theorem ok_fnR {m n : Nat} {F : FS} {ws : List W} (hm : ws.length = m) (h : Ok (F (ws.map some ++ List.replicate (n - ws.length) none) M) fun o M' => ∃ i ds, o = .rt (.ref i) ∧ M.length ≤ i ∧ M'[i]? = some ds ∧ Q (.ref M.length) (M'.take M.length ++ [ds])) : Ok (fnR m n F ws M) Q := by
  unfold fnR
  rw [if_pos hm]
  refine ok_bind (h.mono fun o M' ⟨i, ds, e, hi, e2, q⟩ => ?_)
  subst e
  simp only [e2]
  rw [if_pos hi]
  exact ok_ok q
end
/-! ### boxes -/
def Bx (M : Mm) (b : Nat) : Prop := ∃ x y z, M[b]? = some [.int x, .int y, .int z]
/-- the box at b is another, all else is as it was -/
def Nx (b : Nat) (M M' : Mm) : Prop := ∃ x y z, M' = M.set b [.int x, .int y, .int z]
theorem Bx.lt {M : Mm} {b : Nat} (h : Bx M b) : b < M.length := by obtain ⟨x, y, z, e⟩ := h; exact (List.getElem?_eq_some_iff.mp e).1
theorem Nx.len {M M' : Mm} {b : Nat} (h : Nx b M M') : M'.length = M.length := by obtain ⟨x, y, z, rfl⟩ := h; simp
theorem Nx.bx {M M' : Mm} {b : Nat} (h : Nx b M M') (l : Bx M b) : Bx M' b := by
  obtain ⟨x, y, z, rfl⟩ := h
  exact ⟨x, y, z, List.getElem?_set_self l.lt⟩
theorem Nx.trans {M M1 M2 : Mm} {b : Nat} (h : Nx b M M1) (h' : Nx b M1 M2) : Nx b M M2 := by
  obtain ⟨x, y, z, rfl⟩ := h
  obtain ⟨x', y', z', rfl⟩ := h'
  exact ⟨x', y', z', by rw [List.set_set]⟩
theorem Nx.refl {M : Mm} {b : Nat} (h : Bx M b) : Nx b M M := by
  obtain ⟨x, y, z, e⟩ := h
  refine ⟨x, y, z, ?_⟩
  apply List.ext_getElem?
  intro i
  by_cases hi : b = i
  · subst hi; rw [List.getElem?_set_self (List.getElem?_eq_some_iff.mp e).1, e]
  · rw [List.getElem?_set_ne hi]
theorem Nx.get {M M' : Mm} {b i : Nat} (h : Nx b M M') (n : b ≠ i) : M'[i]? = M[i]? := by
  obtain ⟨x, y, z, rfl⟩ := h
  rw [List.getElem?_set_ne n]
theorem Nx.app {M M' : Mm} {b : Nat} {J : Mm} (h : Nx b M M') (l : b < M.length) : Nx b (M ++ J) (M' ++ J) := by
  obtain ⟨x, y, z, rfl⟩ := h
  exact ⟨x, y, z, by rw [List.set_append_left _ _ l]⟩
theorem Nx.unapp {M M' J : Mm} {b : Nat} (h : Nx b (M ++ J) M') (l : b < M.length) : ∃ M1, M' = M1 ++ J ∧ Nx b M M1 := by
  obtain ⟨x, y, z, rfl⟩ := h
  exact ⟨_, List.set_append_left _ _ l, x, y, z, rfl⟩
theorem Bx.app {M J : Mm} {b : Nat} (h : Bx M b) : Bx (M ++ J) b := by
  obtain ⟨x, y, z, e⟩ := h
  exact ⟨x, y, z, by rw [List.getElem?_append_left (List.getElem?_eq_some_iff.mp e).1]; exact e⟩
theorem Nx.take {M M' : Mm} {b : Nat} (h : Nx b M M') : M'.take M.length = M' := by rw [← h.len, List.take_length]

/-! ### sizes of data -/
mutual
def sz : D → Nat
  | .tup xs => szs xs + 1
  | .lst xs => szs xs + 1
  | .fz xs => szs xs + 1
  | _ => 1
def szs : List D → Nat
  | [] => 0
  | x :: xs => sz x + szs xs
end
mutual
/-- tuples, numbers, texts, truths, None alone -/
def noL : D → Bool
  | .tup xs => noLs xs
  | .lst _ => false
  | .fz _ => false
  | _ => true
def noLs : List D → Bool
  | [] => true
  | x :: xs => noL x && noLs xs
end
theorem atBox (c : Int) : atI [D.int 0, D.int c] (if decide ((10 : Int) ^ (Int.toNat 18) ≤ c) = true then 1 else 0) = some (.int (if (1000000000000000000 : Int) ≤ c then c else 0)) := by
  by_cases hc : (1000000000000000000 : Int) ≤ c <;> simp [hc, atI, ixN]
end EV

set_option Elab.async false
set_option linter.all false
set_option maxRecDepth 100000
set_option maxHeartbeats 4000000
namespace EV
open PySem PySem.Spec PyProof.Rows L2
section
variable {X : Cx} {K : PySem.W.Frag} {Z : Zt} {pos : Pos}
end
section
variable {L : Lc} {M : Mm} {f : FE} {Q : W → Mm → Prop}
theorem ok_iRv {QI : Src → Mm → Prop} (h : Ok (f L M) fun w M1 => ∃ xs, (w = .d (.tup xs) ∨ w = .d (.lst xs) ∨ w = .d (.fz xs)) ∧ QI ⟨xs.reverse, none⟩ M1) : Ok (iRv f L M) QI := by
  refine ok_bind (h.mono ?_)
  rintro w M1 ⟨xs, rfl | rfl | rfl, q⟩ <;> exact ok_ok q
end
end EV

set_option Elab.async false
set_option linter.all false
set_option maxRecDepth 100000
set_option maxHeartbeats 4000000
namespace EV
open PySem PySem.Spec PyProof.Rows L2
section
variable {X : Cx} {K : PySem.W.Frag} {Z : Zt} {μ : List Addr} {H : Hp} {M : Mm} {a b c : Expr} {pos : Pos} {fs : FA}
/-! ### a, b, c = x, y, z -/
def tPar3 (i j k : Nat) (ta : TA) : TS := fun D σ H => ta σ H fun vs H1 => ∃ u v w, vs = [u, v, w] ∧ D.nx (((σ.set i (some u)).set j (some v)).set k (some w)) H1
def sPar3 (i j k : Nat) (fs : FA) : FS := fun L M => (fs L M).bind fun ws M1 => match ws with
  | [u, v, w] => .ok (.nx (((L.set i (some u)).set j (some v)).set k (some w))) M1
  | _ => .bad
/-! ### what is never come to -/
def sBad : FS := fun _ _ => .bad
theorem es_bad {st : Stmt} (hk : X.K = K := by rfl) : Es X K Z st sBad := ⟨hk, cqS ps_never fun _ _ _ ⟨_, _, _, _, _, p⟩ => p⟩
/-! ### sorted(list of ints) -/
def srt (ns : List Int) : List Int := ns.mergeSort fun a b => decide (a ≤ b)
theorem intsAre_of {us : List Value} : ∀ {ns : List Int}, Vals (ns.map V.int) us → IntsAre us ns := by
  induction us with
  | nil => intro ns h; cases ns with
    | nil => exact .nil
    | cons n r => cases h
  | cons u us ih => intro ns h; cases ns with
    | nil => cases h
    | cons n r =>
      cases h with
      | cons p q =>
        obtain ⟨t, rfl⟩ := p
        exact .cons n t (ih q)
def intsOf : List D → Option (List Int)
  | [] => some []
  | .int i :: r => (intsOf r).map (i :: ·)
  | _ :: _ => none
theorem intsOf_map (ns : List Int) : intsOf (ns.map D.int) = some ns := by
  induction ns with
  | nil => rfl
  | cons n r ih => simp only [List.map_cons, intsOf, ih, Option.map_some]
theorem intsOf_eq : ∀ {ds : List D} {ns : List Int}, intsOf ds = some ns → ds = ns.map D.int
  | [], ns, h => by cases h; rfl
  | .int i :: r, ns, h => by
    simp only [intsOf, Option.map_eq_some_iff] at h
    obtain ⟨ms, h1, rfl⟩ := h
    rw [intsOf_eq h1]; rfl
  | .non :: _, _, h => by cases h
  | .bl _ :: _, _, h => by cases h
  | .str _ :: _, _, h => by cases h
  | .tup _ :: _, _, h => by cases h
  | .lst _ :: _, _, h => by cases h
  | .fz _ :: _, _, h => by cases h
theorem rps_ints : ∀ {ns : List Int} {vs : List V}, Rps K μ H (ns.map D.int) vs → vs = ns.map V.int
  | [], vs, h => by simpa [Rps] using h
  | n :: r, vs, h => by
    simp only [List.map_cons, Rps, Rp] at h
    obtain ⟨v, t, rfl, rfl, h3⟩ := h
    rw [rps_ints h3]; rfl
def cSorted (ws : List W) (M : Mm) : Oc W := match ws with
  | [w] => match lr M w with
    | some xs => match intsOf xs with
      | some ns => if ns.length < 64 then okD (.lst ((srt ns).map .int)) M else .bad
      | none => .bad
    | none => .bad
  | _ => .bad
/-! ### going along a list or a tuple -/
theorem seq_iter {pins : List (Addr × Obj)} {σ : St} {s : Shared} {p : Addr} {ys : List V} {Q : Value → Shared → Prop} (hc : X.calm = true) (I : Inv X pins σ H s) (hq : SqL X.K H p ys ∨ SqT X.K H p ys)
    (h : ∀ (s2 : Shared) (J : Addr) (fp : List Addr) (its : Array Value) (St : Nat → Heap → Prop), Vals ys its.toList → Walks X.prog X.w X.A.in1 J fp [J] its.size (fun i v => its[i]? = some v) St → St 0 s2.heap → (∀ b ∈ fp, b < s2.heap.objs.size) →
      (∀ h' tk, (∀ b o, b ∉ [J] → s2.heap.get? b = some o → h'.get? b = some o) → Inv X pins σ H { s2 with heap := h', toks := tk }) → Q (.ref J) s2) : wpAny (model X.prog X.w) X.A.in1 (pyIter (.ref p)) Q X.xe s := by
  rcases hq with hq | hq
  · obtain ⟨its, rv, pl, hz⟩ := I.list hq
    have hp : p < s.heap.objs.size := by
      obtain ⟨o, e, _⟩ := pl.isList
      exact Heap.lt_size e
    have I1 : Inv X pins σ H { s with heap := s.heap.push { cls := .type "list_iterator", data := .fields #[.ref p, rawInt 0] } } := I.kept (t' := s.toks) fun b o e => Heap.get?_push_of_some _ e
    refine wpAny_pyIter_list pl.isList (h _ s.heap.objs.size [s.heap.objs.size, p] its.toArray _ (by simpa using rv) (Walks.list (by show X.A.in1.handled = none; exact I.ok.hd hc) s.heap.objs.size p (Nat.ne_of_lt hp) its.toArray) ⟨⟨_, Heap.get?_push_size _ rfl, rfl, rfl⟩, pl.isList.at fun o e => Heap.get?_push_of_some _ e⟩ (fun b hb => ?_) fun h' tk hk => ?_)
    · show b < (s.heap.push _).objs.size
      rw [Heap.size_push]
      simp only [List.mem_cons, List.not_mem_nil, or_false] at hb
      rcases hb with rfl | rfl
      · exact Nat.lt_succ_self _
      · exact Nat.lt_succ_of_lt hp
    · obtain ⟨f0, f1, f2, f3, f4, f5⟩ := I.fpOk (H' := H) (Nat.le_refl _) (I.hok.fresh (Nat.le_refl _))
      exact I1.turned (t' := tk) (it := s.heap.objs.size) (fun b o hb e => hk b o (by simpa using hb) e) f0 f1 f3 f4 f5
  · obtain ⟨its, rv, pl, hz⟩ := I.tuple hq
    have pl : s.heap.IsTuple p its.toArray := pl
    have hp : p < s.heap.objs.size := by
      obtain ⟨o, e, _⟩ := pl
      exact Heap.lt_size e
    have I1 : Inv X pins σ H { s with heap := s.heap.push { cls := .type "tuple_iterator", data := .fields #[.ref p, rawInt 0] } } := I.kept (t' := s.toks) fun b o e => Heap.get?_push_of_some _ e
    refine wpAny_pyIter_tuple pl (h _ s.heap.objs.size [s.heap.objs.size, p] its.toArray _ (by simpa using rv) (Walks.tuple (by show X.A.in1.handled = none; exact I.ok.hd hc) s.heap.objs.size p (Nat.ne_of_lt hp) its.toArray) ⟨⟨_, Heap.get?_push_size _ rfl, rfl, rfl⟩, pl.at fun o e => Heap.get?_push_of_some _ e⟩ (fun b hb => ?_) fun h' tk hk => ?_)
    · show b < (s.heap.push _).objs.size
      rw [Heap.size_push]
      simp only [List.mem_cons, List.not_mem_nil, or_false] at hb
      rcases hb with rfl | rfl
      · exact Nat.lt_succ_self _
      · exact Nat.lt_succ_of_lt hp
    · obtain ⟨f0, f1, f2, f3, f4, f5⟩ := I.fpOk (H' := H) (Nat.le_refl _) (I.hok.fresh (Nat.le_refl _))
      exact I1.turned (t' := tk) (it := s.heap.objs.size) (fun b o hb e => hk b o (by simpa using hb) e) f0 f1 f3 f4 f5
/-! ### max, min, sum, any, all -/
def mxL : List Int → Int
  | [] => 0
  | x :: r => r.foldl max x
theorem foldl_max_le : ∀ (r : List Int) (x : Int), x ≤ r.foldl max x ∧ (∀ a ∈ r, a ≤ r.foldl max x) ∧ (r.foldl max x = x ∨ r.foldl max x ∈ r)
  | [], x => ⟨Int.le_refl _, by simp, .inl rfl⟩
  | y :: r, x => by
    obtain ⟨h1, h2, h3⟩ := foldl_max_le r (max x y)
    refine ⟨?_, ?_, ?_⟩
    · exact Int.le_trans (Int.le_max_left x y) h1
    · intro a ha
      rcases List.mem_cons.mp ha with rfl | ha
      · exact Int.le_trans (Int.le_max_right x _) h1
      · exact h2 a ha
    · simp only [List.foldl_cons]
      rcases h3 with h3 | h3
      · rw [h3]
        by_cases h : x ≤ y
        · rw [Int.max_eq_right h]; exact .inr (by simp)
        · rw [Int.max_eq_left (by omega)]; exact .inl rfl
      · exact .inr (by simp [h3])
theorem mxL_mem {ns : List Int} (h : ns ≠ []) : mxL ns ∈ ns := by
  cases ns with
  | nil => exact (h rfl).elim
  | cons x r => rcases (foldl_max_le r x).2.2 with e | e
                · simp only [mxL]; rw [e]; simp
                · simp only [mxL]; exact List.mem_cons_of_mem _ e
theorem mxL_le {ns : List Int} {a : Int} (h : a ∈ ns) : a ≤ mxL ns := by
  cases ns with
  | nil => cases h
  | cons x r => rcases List.mem_cons.mp h with rfl | h
                · exact (foldl_max_le r _).1
                · exact (foldl_max_le r x).2.1 a h
theorem mxL_uniq {ns : List Int} {m : Int} (h : m ∈ ns) (g : ∀ a ∈ ns, a ≤ m) : m = mxL ns := Int.le_antisymm (mxL_le h) (g _ (mxL_mem (by rintro rfl; cases h)))
theorem call_maxL (hc : X.calm = true) : CallR X (.builtin "max") (fun xs H Q => ∃ (p : Addr) (ns : List Int), xs = [.ref p] ∧ (SqL X.K H p (ns.map V.int) ∨ SqT X.K H p (ns.map V.int)) ∧ ns ≠ [] ∧ Q (.int (mxL ns)) H) := by
  intro pins s σ H xs us Q I r h
  obtain ⟨p, ns, rfl, hq, hne, q⟩ := h
  obtain ⟨u, rfl, rx⟩ := vals1 r
  cases rx
  refine call_max_walk (seq_iter hc I hq fun s2 J fp its St rv W st0 hfp hI => ?_)
  have hi := intsAre_of rv
  obtain ⟨xs, e⟩ := (hi.allInts).items
  have e' : its = intItems xs := by simpa using e
  subst e'
  have hns : ns = xs.toList.map (·.1) := by rw [← hi.numsOf, ← nums_intItems]
  have hsz : 0 < xs.size := by
    have : 0 < ns.length := List.length_pos_iff.mpr hne
    rw [hns, List.length_map, Array.length_toList] at this; exact this
  refine ⟨J, fp, [J], _, _, St, _, rfl, W, st0, hfp, by simpa [intItems] using hsz, CmpOf.ints_gt (numAt xs) (fun _ _ => intItems_at), fun v h' tk hP hk => ?_⟩
  obtain ⟨t, rfl⟩ := intItems_at (by simpa [intItems] using hP)
  obtain ⟨h1, h2⟩ := argBest_gt (numAt xs) (xs.size - 1)
  have hm : numAt xs (argBest (fun i j => decide (numAt xs i > numAt xs j)) (xs.size - 1)) = mxL ns := by
    refine mxL_uniq ?_ fun a ha => ?_
    · rw [hns, numAt_eq]; exact getD_mem (by rw [List.length_map, Array.length_toList]; omega)
    · rw [hns] at ha
      obtain ⟨j, hj, rfl⟩ := mem_getD ha
      rw [List.length_map, Array.length_toList] at hj
      rw [← numAt_eq]; exact h2 j (by omega)
  refine ⟨.int (mxL ns), H, hI h' tk hk, ⟨t, ?_⟩, q⟩
  rw [← hm]
def cMaxL (ws : List W) (M : Mm) : Oc W := match ws with
  | [w] => match sv M w with
    | some xs => match intsOf xs with
      | some ns => if ns.length ≠ 0 then okD (.int (mxL ns)) M else .bad
      | none => .bad
    | none => .bad
  | _ => .bad
theorem callMaxL (hc : X.calm = true) : ClG X K Z (.builtin "max") cMaxL := fun hk => by
  refine ⟨_, hk ▸ call_maxL hc, ?_⟩
  intro μ H M ws vs Q hr rx p
  match ws, rx, p with
  | [], _, p => exact p.elim
  | [w], ⟨v, r, e1, e2, e3⟩, p =>
    cases e3; subst e1
    simp only [cMaxL] at p
    cases q : sv M w with
    | none => rw [q] at p; exact p.elim
    | some xs =>
      rw [q] at p
      simp only at p
      cases q2 : intsOf xs with
      | none => rw [q2] at p; exact p.elim
      | some ns =>
        rw [q2] at p
        simp only at p
        split at p
        · rename_i hz
          obtain ⟨a, us, rfl, h1, r1⟩ := sv_at hr e2 q
          have e := intsOf_eq q2
          subst e
          have e := rps_ints r1
          subst e
          exact ⟨a, ns, rfl, h1, fun z => hz (by rw [z]; rfl), p μ H .refl hr _ (by simp [Rw, Rp])⟩
        · exact p.elim
  | _ :: _ :: _, _, p => exact p.elim
def cSum (ws : List W) (M : Mm) : Oc W := match ws with
  | [w] => match sv M w with
    | some xs => match intsOf xs with
      | some ns => okD (.int ns.sum) M
      | none => .bad
    | none => .bad
  | _ => .bad
/-! truths -/
def blsOf : List D → Option (List Bool)
  | [] => some []
  | .bl i :: r => (blsOf r).map (i :: ·)
  | _ :: _ => none
theorem blsOf_map (ns : List Bool) : blsOf (ns.map D.bl) = some ns := by
  induction ns with
  | nil => rfl
  | cons n r ih => simp only [List.map_cons, blsOf, ih, Option.map_some]
theorem blsOf_eq : ∀ {ds : List D} {ns : List Bool}, blsOf ds = some ns → ds = ns.map D.bl
  | [], ns, h => by cases h; rfl
  | .bl i :: r, ns, h => by
    simp only [blsOf, Option.map_eq_some_iff] at h
    obtain ⟨ms, h1, rfl⟩ := h
    rw [blsOf_eq h1]; rfl
  | .non :: _, _, h => by cases h
  | .int _ :: _, _, h => by cases h
  | .str _ :: _, _, h => by cases h
  | .tup _ :: _, _, h => by cases h
  | .lst _ :: _, _, h => by cases h
  | .fz _ :: _, _, h => by cases h
theorem rps_bls : ∀ {ns : List Bool} {vs : List V}, Rps K μ H (ns.map D.bl) vs → vs = ns.map V.bl
  | [], vs, h => by simpa [Rps] using h
  | n :: r, vs, h => by
    simp only [List.map_cons, Rps, Rp] at h
    obtain ⟨v, t, rfl, rfl, h3⟩ := h
    rw [rps_bls h3]; rfl
theorem bl_at {bs : List Bool} {its : Array Value} (rv : Vals (bs.map V.bl) its.toList) {i : Nat} {v : Value} (hv : its[i]? = some v) : v = .bool (bs.getD i false) := by
  have hv : its.toList[i]? = some v := by simpa using hv
  have hlt : i < bs.length := by have := (List.getElem?_eq_some_iff.mp hv).1; have h2 := rv.length; simp at h2 this; omega
  obtain ⟨w', hw, rw'⟩ := rv.get (show (bs.map V.bl)[i]? = some (.bl (bs.getD i false)) by simp [hlt])
  rw [hv] at hw
  cases hw
  exact rw'
theorem range_any (bs : List Bool) : (List.range bs.length).any (fun i => bs.getD i false) = bs.any id := by
  rw [Bool.eq_iff_iff, List.any_eq_true, List.any_eq_true]
  constructor
  · rintro ⟨i, hi, h⟩
    have hi := List.mem_range.mp hi
    exact ⟨bs[i], List.getElem_mem hi, by simpa [hi] using h⟩
  · rintro ⟨x, hx, h⟩
    obtain ⟨i, hi, rfl⟩ := List.mem_iff_getElem.mp hx
    exact ⟨i, List.mem_range.mpr hi, by simpa [hi] using h⟩
theorem call_anyB (hc : X.calm = true) : CallR X (.builtin "any") (fun xs H Q => ∃ (p : Addr) (bs : List Bool), xs = [.ref p] ∧ (SqL X.K H p (bs.map V.bl) ∨ SqT X.K H p (bs.map V.bl)) ∧ Q (.bl (bs.any id)) H) := by
  intro pins s σ H xs us Q I r h
  obtain ⟨p, bs, rfl, hq, q⟩ := h
  obtain ⟨u, rfl, rx⟩ := vals1 r
  cases rx
  refine call_any_walk (seq_iter hc I hq fun s2 J fp its St rv W st0 hfp hI => ?_)
  have hl : bs.length = its.size := by have := rv.length; simpa using this
  refine ⟨J, fp, [J], _, _, St, fun i => bs.getD i false, rfl, W, st0, fun i v s3 Q3 E3 hv q3 => ?_, fun h' tk hk => ?_⟩
  · rw [bl_at rv hv]; exact wpAny_truthy_bool q3
  · rw [← hl, range_any]
    exact ⟨.bl _, H, hI h' tk hk, rfl, q⟩
def cBls (g : List Bool → Bool) (ws : List W) (M : Mm) : Oc W := match ws with
  | [w] => match sv M w with
    | some xs => match blsOf xs with
      | some bs => okD (.bl (g bs)) M
      | none => .bad
    | none => .bad
  | _ => .bad
abbrev cAllB := cBls fun bs => bs.all id
abbrev cAny := cBls fun bs => bs.any id
theorem clBls {g : List Bool → Bool} : Cl K Z (fun xs H Q => ∃ (p : Addr) (bs : List Bool), xs = [.ref p] ∧ (SqL K H p (bs.map V.bl) ∨ SqT K H p (bs.map V.bl)) ∧ Q (.bl (g bs)) H) (cBls g) := by
  intro μ H M ws vs Q hr rx p
  match ws, rx, p with
  | [], _, p => exact p.elim
  | [w], ⟨v, r, e1, e2, e3⟩, p =>
    cases e3; subst e1
    simp only [cBls] at p
    cases q : sv M w with
    | none => rw [q] at p; exact p.elim
    | some xs =>
      rw [q] at p
      simp only at p
      cases q2 : blsOf xs with
      | none => rw [q2] at p; exact p.elim
      | some ns =>
        rw [q2] at p
        obtain ⟨a, us, rfl, h1, r1⟩ := sv_at hr e2 q
        have e := blsOf_eq q2
        subst e
        have e := rps_bls r1
        subst e
        exact ⟨a, ns, rfl, h1, p μ H .refl hr _ (by simp [Rw, Rp])⟩
  | _ :: _ :: _, _, p => exact p.elim
theorem callAny (hc : X.calm = true) : ClG X K Z (.builtin "any") cAny := fun hk => ⟨_, hk ▸ call_anyB hc, clBls⟩
theorem bt_any : bootBuiltins "any" = some (.builtin "any") := by first | rfl | kernel_rfl
end
section
variable {L : Lc} {M : Mm} {w x : W} {f : FE} {fs : FA} {Q : W → Mm → Prop} {QS : Out → Mm → Prop}
theorem ok_par3 {i j k : Nat} (h : Ok (fs L M) fun ws M1 => ∃ u v w, ws = [u, v, w] ∧ QS (.nx (((L.set i (some u)).set j (some v)).set k (some w))) M1) : Ok (sPar3 i j k fs L M) QS := ok_bind (h.mono fun ws M1 ⟨u, v, w, e, q⟩ => by subst e; exact ok_ok q)
theorem ok_maxL {ns : List Int} {ds : List D} (h : sv M x = some ds) (e : ds = ns.map D.int) (hz : ns ≠ []) (q : Q (.d (.int (mxL ns))) M) : Ok (cMaxL [x] M) Q := by
  subst e
  unfold cMaxL; simp only [h, intsOf_map]; rw [if_pos (fun z => hz (List.length_eq_zero_iff.mp z))]; exact ok_ok q
theorem ok_bls {g : List Bool → Bool} {bs : List Bool} {ds : List D} (h : sv M x = some ds) (e : ds = bs.map D.bl) (q : Q (.d (.bl (g bs))) M) : Ok (cBls g [x] M) Q := by
  subst e
  unfold cBls; simp only [h, blsOf_map]; exact ok_ok q
end
end EV

set_option Elab.async false
set_option linter.all false
set_option maxRecDepth 100000
set_option maxHeartbeats 4000000
namespace EV
open PySem PySem.Spec PyProof.Rows L2
section
variable {X : Cx} {K : PySem.W.Frag} {Z : Zt} {μ : List Addr} {H : Hp} {M : Mm} {a b c o i e : Expr} {pos : Pos} {fs : FA} {fa fb fc fo fi fe : FE}
/-! ### a op b op c as a value -/
/-! ### o[i] op= e -/
def sAugS (g : Int → Int → Int) (fo fi fe : FE) : FS := fun L M => (fo L M).bind fun o M1 => (fi L M1).bind fun i M2 => match o, i with
  | .ref k, .d (.int j) => match M2[k]? with
    | some xs => if 0 ≤ j then match xs[j.toNat]? with
      | some (.int x) => (fe L M2).bind fun y M3 => match y with
        | .d (.int z) => match M3[k]? with
          | some ys => if j.toNat < ys.length then .ok (.nx L) (M3.set k (ys.set j.toNat (.int (g x z)))) else .bad
          | none => .bad
        | _ => .bad
      | _ => .bad
      else .bad
    | none => .bad
  | _, _ => .bad
end
section
variable {L : Lc} {M : Mm} {fo fi fe : FE} {QS : Out → Mm → Prop}
theorem ok_augS {g : Int → Int → Int} (h : Ok (fo L M) fun o M1 => Ok (fi L M1) fun i M2 => ∃ k j xs x, o = .ref k ∧ i = .d (.int j) ∧ M2[k]? = some xs ∧ 0 ≤ j ∧ xs[j.toNat]? = some (.int x) ∧ Ok (fe L M2) fun y M3 => ∃ z ys, y = .d (.int z) ∧ M3[k]? = some ys ∧ j.toNat < ys.length ∧ QS (.nx L) (M3.set k (ys.set j.toNat (.int (g x z))))) : Ok (sAugS g fo fi fe L M) QS := by
  refine ok_bind (h.mono fun o M1 z => ok_bind (z.mono fun i M2 ⟨k, j, xs, x, e1, e2, e3, h0, e4, z'⟩ => ?_))
  subst e1 e2
  simp only [e3]
  rw [if_pos h0]
  simp only [e4]
  refine ok_bind (z'.mono fun y M3 ⟨z, ys, e5, e6, h1, q⟩ => ?_)
  subst e5
  simp only [e6]
  rw [if_pos h1]
  exact ok_ok q
end
end EV

set_option Elab.async false
set_option linter.all false
set_option maxRecDepth 100000
set_option maxHeartbeats 4000000
namespace L2
open PySem PySem.Spec PyProof.Rows
section
variable {X : Cx} {pins : List (Addr × Obj)} {σ : St} {H : Hp} {s : Shared} {h' : Heap} {fp : List Addr}
/-- records of ours have turned, and one new object is tracked -/
theorem Inv.turnLay {t' : Nat} {T : Addr} {o : HO} (I : Inv X pins σ H s) (hf : ∀ b ∈ fp, FpOk X pins H b) (k : ∀ b u, b ∉ fp → s.heap.get? b = some u → h'.get? b = some u) (hT : s.heap.objs.size ≤ T) (new : ObjOk X.prog X.w (upd H T o) h' T o) :
    Inv X pins σ (upd H T o) { s with heap := h', toks := t' } := by
  have hn : H T = none := I.hok.fresh hT
  have nfp : ∀ b u, H b = some u → b ∉ fp := fun b u e z => by rw [(hf b z).1] at e; cases e
  have lt : ∀ b u, s.heap.get? b = some u → b ≠ T := fun b u e z => by subst z; exact absurd (Heap.lt_size e) (Nat.not_lt.mpr hT)
  have neT : ∀ b u, H b = some u → b ≠ T := fun b u e z => by rw [z, hn] at e; cases e
  refine I.step (g' := s.gens) (d' := s.drawn) (ch := fp) (fun b hb => ?_) (fun b u _ _ hc e _ => k b u hc e) (fun b u _ _ hc e _ => ⟨u.slots, k b u hc e⟩) (fun b u _ e n => by rw [upd_ne (lt b u e)]; exact n)
    (fun b u hc e => ⟨u, k b u hc e⟩) (fun b xs e => by rw [upd_ne (neT b _ e)]; exact e) (fun b u v e => by rw [upd_ne (neT b _ e)]; exact e) (fun b ps e => ⟨#[], by rw [upd_ne (neT b _ e), e]; simp⟩) (fun m hm => ?_) (fun b u e => ?_) I.bare
  · obtain ⟨_, f1, _, f3, f4, f5⟩ := hf b hb
    exact ⟨f3, f1, f4, f5⟩
  · obtain ⟨u, es, ep, ho, r⟩ := hm
    exact ⟨u, es, ep, k _ u (fun z => (hf _ z).2.1 rfl) ho, r⟩
  · by_cases hb : b = T
    · subst hb; rw [upd_same] at e; cases e; exact new
    · rw [upd_ne hb] at e
      refine (I.hok b u e).stay (fun c v hc q => k c v ?_ q) (fun c q => by rw [upd_ne (neT c _ q)]; exact q) fun c xs q => by rw [upd_ne (neT c _ q)]; exact q
      rcases hc with z | z
      · rw [z]; exact nfp b u e
      · exact nfp c _ z
theorem Inv.turnedL {t' : Nat} (I : Inv X pins σ H s) (hf : ∀ b ∈ fp, FpOk X pins H b) (k : ∀ b u, b ∉ fp → s.heap.get? b = some u → h'.get? b = some u) : Inv X pins σ H { s with heap := h', toks := t' } := by
  have nfp : ∀ b u, H b = some u → b ∉ fp := fun b u e z => by rw [(hf b z).1] at e; cases e
  refine I.step (g' := s.gens) (d' := s.drawn) (ch := fp) (fun b hb => ?_) (fun b u _ _ hc e _ => k b u hc e) (fun b u _ _ hc e _ => ⟨u.slots, k b u hc e⟩) (fun _ _ _ _ n => n)
    (fun b u hc e => ⟨u, k b u hc e⟩) (fun _ _ e => e) (fun _ _ _ e => e) (fun b ps e => ⟨#[], by rw [e]; simp⟩) (fun m hm => ?_) (fun b u e => ?_) I.bare
  · obtain ⟨_, f1, _, f3, f4, f5⟩ := hf b hb
    exact ⟨f3, f1, f4, f5⟩
  · obtain ⟨u, es, ep, ho, r⟩ := hm
    exact ⟨u, es, ep, k _ u (fun z => (hf _ z).2.1 rfl) ho, r⟩
  · refine (I.hok b u e).stay (fun c v hc q => k c v ?_ q) (fun _ q => q) fun _ _ q => q
    rcases hc with z | z
    · rw [z]; exact nfp b u e
    · exact nfp c _ z
end
/-- a list's or a tuple's items -/
def SqB (b : Bool) (K : PySem.W.Frag) (H : Hp) (a : Addr) (xs : List V) : Prop := if b = true then SqL K H a xs else SqT K H a xs
def It0 (b : Bool) (h : Heap) (it src : Addr) (i : Nat) : Prop := if b = true then h.IsListIter it src i else h.IsTupleIter it src i
def IsB (b : Bool) (h : Heap) (a : Addr) (xs : Array Value) : Prop := if b = true then h.IsList a xs else h.IsTuple a xs
theorem It0.at {b : Bool} {h h' : Heap} {it src : Addr} {i : Nat} (x : It0 b h it src i) (k : ∀ o, h.get? it = some o → h'.get? it = some o) : It0 b h' it src i := by
  cases b
  · exact Heap.IsTupleIter.at x k
  · exact Heap.IsListIter.at x k
theorem It0.obj {b : Bool} {h : Heap} {it src : Addr} {i : Nat} (x : It0 b h it src i) : ∃ o, h.get? it = some o ∧ ∀ v, o.data ≠ .cell v := by
  cases b
  · obtain ⟨o, e, c, d⟩ := (show h.IsTupleIter it src i from x)
    exact ⟨o, e, fun v z => by rw [d] at z; cases z⟩
  · obtain ⟨o, e, c, d⟩ := (show h.IsListIter it src i from x)
    exact ⟨o, e, fun v z => by rw [d] at z; cases z⟩
theorem it1_of {b : Bool} {h : Heap} {it src : Addr} {i : Nat} {xs : Array Value} (x : It0 b h it src i) (y : IsB b h src xs) : ZP.It1 h it src i xs := by
  cases b
  · exact .inr ⟨x, y⟩
  · exact .inl ⟨x, y⟩
theorem it0_of {b : Bool} {h : Heap} {it src : Addr} {i : Nat} {xs ys : Array Value} (y : IsB b h src ys) (x : ZP.It1 h it src i xs) : It0 b h it src i := by
  cases b
  · rcases x with ⟨_, o, e, c, _⟩ | ⟨x, _⟩
    · obtain ⟨o', e', c', _⟩ := (show h.IsTuple src ys from y)
      rw [e] at e'; cases e'; rw [c] at c'; simp at c'
    · exact x
  · rcases x with ⟨x, _⟩ | ⟨_, o, e, c, _⟩
    · exact x
    · obtain ⟨o', e', c', _⟩ := (show h.IsList src ys from y)
      rw [e] at e'; cases e'; rw [c] at c'; simp at c'
theorem IsB.at {b : Bool} {h h' : Heap} {a : Addr} {xs : Array Value} (x : IsB b h a xs) (k : ∀ o, h.get? a = some o → h'.get? a = some o) : IsB b h' a xs := by
  cases b
  · obtain ⟨o, e, r⟩ := (show h.IsTuple a xs from x); exact ⟨o, k o e, r⟩
  · obtain ⟨o, e, r⟩ := (show h.IsList a xs from x); exact ⟨o, k o e, r⟩
theorem IsB.lt {b : Bool} {h : Heap} {a : Addr} {xs : Array Value} (x : IsB b h a xs) : a < h.objs.size := by
  cases b
  · obtain ⟨o, e, r⟩ := (show h.IsTuple a xs from x); exact Heap.lt_size e
  · obtain ⟨o, e, r⟩ := (show h.IsList a xs from x); exact Heap.lt_size e
theorem SqB.inv {X : Cx} {pins : List (Addr × Obj)} {σ : St} {H : Hp} {s : Shared} {b : Bool} {a : Addr} {xs : List V} (I : Inv X pins σ H s) (h : SqB b X.K H a xs) : ∃ its : List Value, Vals xs its ∧ IsB b s.heap a its.toArray ∧ xs.length ≤ sizeLine := by
  cases b
  · obtain ⟨its, r, pl, hz⟩ := I.tuple (show SqT X.K H a xs from h); exact ⟨its, r, pl, hz⟩
  · obtain ⟨its, r, pl, hz⟩ := I.list (show SqL X.K H a xs from h); exact ⟨its, r, pl.isList, hz⟩
section
variable {prog : Program} {w : World} {A : Around} {E : Value → Shared → Prop} {s : Shared}
theorem letGo_zip {elts : List Expr} {x1} {pos : Pos} {z TI TO T : Addr} {f0 f1 : Value} {Q : Unit → Shared → Prop} (hz : s.heap.get? z = some (ZP.zobj TI TO f0 f1)) (hf : f0 = .none ∨ ∃ T : Nat, f0 = rawInt T)
    (hQ : ∀ h' g0, h'.get? z = some (ZP.zobj TI TO g0 f1) → (g0 = .none ∨ ∃ T : Nat, g0 = rawInt T) → Heap.SameBut z s.heap h' → Q () { s with heap := h' }) : wpAny (model prog w) A (letOwnedTupleGo (.Tuple elts x1 pos) (.ref z) (.ref T)) Q E s := by
  unfold letOwnedTupleGo
  refine wpAny_bind (wpAny_load hz ?_)
  show wpAny _ A (if (["enumerate", "zip", "dict_itemiterator", "dict_reverseitemiterator", "odict_iterator", "itertools.zip_longest", "itertools.pairwise"].contains "zip" && (#[f0, f1, .bool false, .ref TI, .ref TO] : Array Value)[0]? == some (rawInt T)) = true then _ else _) Q E s
  by_cases hc : (["enumerate", "zip", "dict_itemiterator", "dict_reverseitemiterator", "odict_iterator", "itertools.zip_longest", "itertools.pairwise"].contains "zip" && (#[f0, f1, .bool false, .ref TI, .ref TO] : Array Value)[0]? == some (rawInt T)) = true
  · rw [if_pos hc]
    refine wpAny_bind (wpAny_rule ?_)
    show wpAny _ A (setField (.ref z) 0 .none) Q E s
    exact wpAny_setField_rec hz (by simp) fun h' hz' hs' => hQ h' .none hz' (.inl rfl) hs'
  · rw [if_neg hc]
    exact wpAny_pure (hQ s.heap f0 hz hf ⟨rfl, fun _ _ => rfl⟩)
end
def tnz (b1 b2 : Bool) (z TI TO i1 i2 l1 l2 : Addr) (i : Nat) (h : Heap) : Prop :=
  (∃ f0 f1, h.get? z = some (ZP.zobj TI TO f0 f1) ∧ (f0 = .none ∨ ∃ T : Nat, f0 = rawInt T)) ∧ IsPair h TI (.ref i1) (.ref i2) ∧ (∃ a b, IsPair h TO a b) ∧ It0 b1 h i1 l1 i ∧ It0 b2 h i2 l2 i
def Itz (b1 b2 : Bool) (K : PySem.W.Frag) (l1 l2 : Addr) (xs ys : List V) : It :=
  ⟨fun i H => SqB b1 K H l1 xs ∧ SqB b2 K H l2 ys ∧ i < xs.length ∧ i < ys.length, fun i H x H' => ∃ T u v, H T = none ∧ x = .ref T ∧ xs[i]? = some u ∧ ys[i]? = some v ∧ H' = upd H T (.tup [u, v]), fun i H => SqB b1 K H l1 xs ∧ SqB b2 K H l2 ys ∧ (xs.length ≤ i ∨ ys.length ≤ i)⟩
theorem turn_zip {P : Program} {w : World} {K : PySem.W.Frag} {elts : List Expr} {x1} {pos : Pos} {b1 b2 : Bool} {z TI TO i1 i2 l1 l2 : Addr} (D : ZP.Ap z TI TO i1 i2 l1 l2) (xs ys : List V) : Turn P w K (.Tuple elts x1 pos) (Itz b1 b2 K l1 l2 xs ys) [z, TI, TO, i1, i2] z (tnz b1 b2 z TI TO i1 i2 l1 l2) where
  mem := by simp
  obj := fun i h st b hb => by
    obtain ⟨⟨f0, f1, hz, _⟩, hTI, ⟨a, c, hTO⟩, h1, h2⟩ := st
    simp only [List.mem_cons, List.not_mem_nil, or_false] at hb
    rcases hb with rfl | rfl | rfl | rfl | rfl
    · exact ⟨_, hz, fun v z => by cases z⟩
    · exact ⟨_, hTI, fun v z => by cases z⟩
    · exact ⟨_, hTO, fun v z => by cases z⟩
    · exact h1.obj
    · exact h2.obj
  keep := fun i h h' st k => by
    obtain ⟨⟨f0, f1, hz, hf⟩, hTI, ⟨a, c, hTO⟩, h1, h2⟩ := st
    exact ⟨⟨f0, f1, k z (by simp) _ hz, hf⟩, k TI (by simp) _ hTI, ⟨a, c, k TO (by simp) _ hTO⟩, h1.at fun o e => k i1 (by simp) o e, h2.at fun o e => k i2 (by simp) o e⟩
  item := by
    intro X hP hw hK hc i pins s σ H E I hf st hg
    subst hP hw hK
    obtain ⟨sx, sy, hx, hy⟩ := hg
    obtain ⟨its1, r1, y1, z1⟩ := sx.inv I
    obtain ⟨its2, r2, y2, z2⟩ := sy.inv I
    obtain ⟨⟨f0, f1, hz, hf0⟩, hTI, hTO, h1, h2⟩ := st
    have hT : s.TypeIs (.ref z) "zip" := ⟨_, hz, rfl⟩
    obtain ⟨u, hu, ru⟩ := r1.get (List.getElem?_eq_getElem hx)
    obtain ⟨v, hv, rv⟩ := r2.get (List.getElem?_eq_getElem hy)
    have zlt : z < s.heap.objs.size := Heap.lt_size hz
    unfold pyNext
    refine wpAny_bind (wpAny_attempt (wpAny_callSpecial?_slot (name := Str.ofString "__next__") hT F.slot_zip_next
      (wpAny_call_entry F.slot_zip_next hT F.entry_zip_next
        (ZP.zip_next_item D ⟨⟨f0, f1, hz, hf0⟩, hTI, hTO, it1_of h1 y1, it1_of h2 y2⟩ (x := u) (y := v) (by simpa using hu) (by simpa using hv) fun h' T z' p' n' k' => wpAny_pure ?_) (F.args_zip_next_1 _))))
    refine ⟨_, rfl, ?_⟩
    obtain ⟨⟨g0, g1, hz', hg0⟩, hTI', ⟨c, d, hTO'⟩, a1', a2'⟩ := z'
    have y1' : IsB b1 h' l1 its1.toArray := y1.at fun o e => k' l1 o D.l1z D.l1TO D.l1i1 D.l1i2 e
    have y2' : IsB b2 h' l2 its2.toArray := y2.at fun o e => k' l2 o D.l2z D.l2TO D.l2i1 D.l2i2 e
    refine letGo_zip (s := { s with heap := h' }) hz' hg0 fun h2 g2 hz2 hg2 sb => ?_
    have sb : Heap.SameBut z h' h2 := sb
    have kk : ∀ b o, b ∉ [z, TI, TO, i1, i2] → s.heap.get? b = some o → h2.get? b = some o := fun b o hb e => by
      simp only [List.mem_cons, List.not_mem_nil, or_false, not_or] at hb
      obtain ⟨q1, q2, q3, q4, q5⟩ := hb
      exact sb.extBut b o q1 (k' b o q1 q3 q4 q5 e)
    have hTz : T ≠ z := fun e => absurd zlt (Nat.not_lt.mpr (e ▸ n'))
    have hp2 : h2.get? T = some { cls := .type "tuple", data := .seq #[u, v] } := sb.extBut T _ hTz p'
    refine ⟨.ref T, upd H T (.tup [xs[i], ys[i]]), I.turnLay (t' := s.toks) hf kk n' (show ObjOk X.prog X.w _ h2 T (.tup [xs[i], ys[i]]) from ⟨by show 2 ≤ sizeLine; decide, [u, v], .cons ru (.cons rv .nil), _, hp2, rfl, _, rfl⟩), rfl, ⟨T, xs[i], ys[i], I.hok.fresh n', rfl, List.getElem?_eq_getElem hx, List.getElem?_eq_getElem hy, rfl⟩, ?_, fun b hb => ?_⟩
    · exact ⟨⟨g2, g1, hz2, hg2⟩, sb.extBut TI _ D.TIz hTI', ⟨c, d, sb.extBut TO _ D.TOz hTO'⟩, (it0_of y1' a1').at fun o e => sb.extBut i1 o D.i1z e, (it0_of y2' a2').at fun o e => sb.extBut i2 o D.i2z e⟩
    · rw [upd_ne]
      · exact (hf b hb).1
      · rintro rfl
        simp only [List.mem_cons, List.not_mem_nil, or_false] at hb
        have : b < s.heap.objs.size := by
          rcases hb with rfl | rfl | rfl | rfl | rfl
          · exact zlt
          · exact Heap.lt_size hTI
          · obtain ⟨_, _, q⟩ := hTO; exact Heap.lt_size q
          · obtain ⟨o, q, _⟩ := h1.obj; exact Heap.lt_size q
          · obtain ⟨o, q, _⟩ := h2.obj; exact Heap.lt_size q
        exact absurd this (Nat.not_lt.mpr n')
  done := by
    intro X hP hw hK hc i pins s σ H E I hf st hg
    subst hP hw hK
    obtain ⟨sx, sy, hend⟩ := hg
    obtain ⟨its1, r1, y1, z1⟩ := sx.inv I
    obtain ⟨its2, r2, y2, z2⟩ := sy.inv I
    obtain ⟨⟨f0, f1, hz, hf0⟩, hTI, hTO, h1, h2⟩ := st
    have hT : s.TypeIs (.ref z) "zip" := ⟨_, hz, rfl⟩
    have l1' := r1.length
    have l2' := r2.length
    unfold pyNext
    refine wpAny_bind (wpAny_attempt (wpAny_callSpecial?_slot (name := Str.ofString "__next__") hT F.slot_zip_next
      (wpAny_call_entry F.slot_zip_next hT F.entry_zip_next (ZP.zip_next_end (I.ok.hd hc) D ⟨⟨f0, f1, hz, hf0⟩, hTI, hTO, it1_of h1 y1, it1_of h2 y2⟩ (by
        rcases hend with q | q
        · exact .inl (by simp; omega)
        · exact .inr (by simp; omega)) fun h' e hk he => ?_) (F.args_zip_next_1 _))))
    obtain ⟨o, ho, hcl⟩ := he
    refine wpAny_bind (wpAny_isInstance (T := "StopIteration") (b := true) ⟨o, ho, hcl⟩ isSubtype_stop ?_)
    refine wpAny_pure ⟨rfl, I.turnedL (t' := s.toks) hf fun b o hb e => ?_⟩
    simp only [List.mem_cons, List.not_mem_nil, or_false, not_or] at hb
    obtain ⟨q1, q2, q3, q4, q5⟩ := hb
    exact hk b o q1 q3 q4 q5 e
  self := fun A i s Q E st hQ => by
    obtain ⟨⟨f0, f1, hz, _⟩, _⟩ := st
    have hT : s.TypeIs (.ref z) "zip" := ⟨_, hz, rfl⟩
    refine wpAny_pyIter_slot hT F.slot_zip_iter (wpAny_call_entry F.slot_zip_iter hT F.entry_zip_iter ?_ (F.args_zip_iter_1 _))
    show wpAny _ _ (ret (.ref z)) _ _ s
    exact wpAny_pure ⟨_, rfl, "zip", _, hT, F.slot_zip_next.lookup, hQ⟩
def iZipE (K : PySem.W.Frag) (ta : TA) : TI := fun σ H R => ta σ H fun vs H1 => ∃ a b b1 b2 xs ys, vs = [.ref a, .ref b] ∧ SqB b1 K H1 a xs ∧ SqB b2 K H1 b ys ∧ R (Itz b1 b2 K a b xs ys) H1
theorem pi_zip {X : Cx} {elts : List Expr} {x1} {tpos : Pos} {a b : Expr} {ta tb : TE} {p pos : Pos} (hg : Gl X "zip") (hm : X.mg "zip" = none) (ha : PE X a ta) (hb : PE X b tb)
    (hs2 : starEach [a, b] X.env = (false, eval a X.env) :: starEach [b] X.env := by rfl) (hs3 : starEach [b] X.env = (false, eval b X.env) :: starEach [] X.env := by rfl) (hpl2 : (backTo pos (starEach [b] X.env)).any (·.1) = false := by rfl) :
    PI X (.Tuple elts x1 tpos) (.Call (.Name "zip" p) [a, b] [] pos) (fun σ H R => ta σ H fun x H1 => tb σ H1 fun y H2 => ∃ l1 l2 b1 b2 xs ys, x = .ref l1 ∧ y = .ref l2 ∧ SqB b1 X.K H2 l1 xs ∧ SqB b2 X.K H2 l2 ys ∧ R (Itz b1 b2 X.K l1 l2 xs ys) H2) := by
  intro pins s σ H R I h
  refine wpAny_Call_Name_kw (ld_blt I hg hm bt_zip ?_)
  refine PyProof.Rows.callWith_type1 (thn (pa_cons ha (pa_cons hb pa_nil hs3) hs2 pos pins s σ H (fun vs H2 => match vs with | [x, y] => ∃ l1 l2 b1 b2 xs ys, x = .ref l1 ∧ y = .ref l2 ∧ SqB b1 X.K H2 l1 xs ∧ SqB b2 X.K H2 l2 ys ∧ R (Itz b1 b2 X.K l1 l2 xs ys) H2 | _ => False) I h) fun us s1 ⟨vs, H1, I1, r1, hr⟩ => ?_) hs2 hpl2
  match vs, r1, hr with
  | [], _, hr => exact hr.elim
  | [_], _, hr => exact hr.elim
  | _ :: _ :: _ :: _, _, hr => exact hr.elim
  | [x, y], r1, hr =>
  obtain ⟨u1, u2, rfl, rx, ry⟩ := r1.two
  obtain ⟨l1, l2, b1, b2, xs, ys, rfl, rfl, sx, sy, hq⟩ := hr
  cases rx
  cases ry
  obtain ⟨its, q1, p1, z1⟩ := sx.inv I1
  obtain ⟨its2, q2, p2, z2⟩ := sy.inv I1
  have hl1 := p1.lt
  have hl2 := p2.lt
  have e1 : s1.heap.IsList l1 its.toArray ∨ s1.heap.IsTuple l1 its.toArray := by cases b1; exact .inr p1; exact .inl p1
  have e2 : s1.heap.IsList l2 its2.toArray ∨ s1.heap.IsTuple l2 its2.toArray := by cases b2; exact .inr p2; exact .inl p2
  have D := ZP.ap_of hl1 hl2
  refine ZP.call_zipG e1 e2 fun h1 Zs1 hsz kp => ?_
  obtain ⟨⟨f0, f1, hz, hf0⟩, hTI, hTO, a1, a2⟩ := Zs1
  have tz : tnz b1 b2 (s1.heap.objs.size + 4) (s1.heap.objs.size + 2) (s1.heap.objs.size + 3) s1.heap.objs.size (s1.heap.objs.size + 1) l1 l2 0 h1 := ⟨⟨f0, f1, hz, hf0⟩, hTI, hTO, it0_of (p1.at fun o e => kp l1 o e) a1, it0_of (p2.at fun o e => kp l2 o e) a2⟩
  refine (turn_zip (P := X.prog) (w := X.w) (K := X.K) (elts := elts) (x1 := x1) (pos := tpos) (b1 := b1) (b2 := b2) D xs ys).self _ 0 _ _ _ tz ?_
  refine ⟨s1.heap.objs.size + 4, _, _, _, H1, rfl, I1.kept (t' := s1.toks) fun b o e => kp b o e, turn_zip D xs ys, tz, fun b hb => ?_, hq⟩
  refine I1.fpOk ?_ (I1.hok.fresh ?_) <;>
  · simp only [List.mem_cons, List.not_mem_nil, or_false] at hb
    rcases hb with rfl | rfl | rfl | rfl | rfl <;> (show (_ : Nat) ≤ (_ : Nat); omega)
end L2
namespace EV
open PySem PySem.Spec PyProof.Rows L2
section
variable {X : Cx} {K : PySem.W.Frag} {Z : Zt} {μ : List Addr} {H : Hp} {M : Mm} {a b : Expr} {pos : Pos} {f g : FE} {tg : Expr}
/-- data that is a row -/
def dz : W → Option (List D)
  | .d (.tup xs) => some xs
  | .d (.lst xs) => some xs
  | .d (.fz xs) => some xs
  | _ => none
theorem src_of {w : W} {v : V} {ds : List D} (r : Rw K μ H w v) (h : dz w = some ds) : ∃ (b : Bool) (a : Addr) (vs : List V) (S : List Addr → Hp → Prop), v = .ref a ∧ S μ H ∧ (∀ μ1 H1 μ2 H2, Lsts μ1 H1 → S μ1 H1 → Ext μ1 H1 μ2 H2 → S μ2 H2) ∧ ∀ μ1 H1, S μ1 H1 → SqB b K H1 a vs ∧ Rps K μ1 H1 ds vs := by
  cases w with
  | ref i => cases h
  | d x => cases x with
    | tup xs =>
      cases h
      simp only [Rw, Rp] at r
      obtain ⟨p, vs, rfl, h1, r1⟩ := r
      exact ⟨false, p, vs, fun μ2 H2 => H2 p = some (.tup vs) ∧ Rps K μ2 H2 ds vs, rfl, ⟨h1, r1⟩, fun μ1 H1 μ2 H2 l z e => ⟨e.keep _ _ (fun q => by obtain ⟨us, q⟩ := l p q; rw [z.1] at q; cases q) z.1, Rps.ext l e _ _ z.2⟩, fun μ1 H1 z => ⟨SqT.of z.1, z.2⟩⟩
    | lst xs =>
      cases h
      simp only [Rw, Rp] at r
      obtain ⟨p, vs, rfl, h1, hn, r1⟩ := r
      exact ⟨true, p, vs, fun μ2 H2 => H2 p = some (.lst vs) ∧ p ∉ μ2 ∧ Rps K μ2 H2 ds vs, rfl, ⟨h1, hn, r1⟩, fun μ1 H1 μ2 H2 l z e => ⟨e.keep _ _ z.2.1 z.1, fun q => (e.new p q).elim z.2.1 (fun q => by rw [z.1] at q; cases q), Rps.ext l e _ _ z.2.2⟩, fun μ1 H1 z => ⟨SqL.of z.1, z.2.2⟩⟩
    | fz xs =>
      cases h
      simp only [Rw, Rp] at r
      obtain ⟨p, vs, rfl, h1, r1⟩ := r
      exact ⟨true, p, vs, fun μ2 H2 => FzL K H2 p vs ∧ Rps K μ2 H2 ds vs, rfl, ⟨h1, r1⟩, fun μ1 H1 μ2 H2 l z e => ⟨z.1.ext l e, Rps.ext l e _ _ z.2⟩, fun μ1 H1 z => ⟨z.1.sq, z.2⟩⟩
    | _ => cases h
theorem zipT_get {xs ys : List D} {i : Nat} {d : D} (h : (zipT xs ys)[i]? = some d) : ∃ x y, xs[i]? = some x ∧ ys[i]? = some y ∧ d = .tup [x, y] := by
  unfold zipT at h
  rw [List.getElem?_map, Option.map_eq_some_iff] at h
  obtain ⟨p, h1, rfl⟩ := h
  rw [List.getElem?_zip_eq_some] at h1
  exact ⟨_, _, h1.1, h1.2, rfl⟩
theorem zipT_length {xs ys : List D} : (zipT xs ys).length = min xs.length ys.length := by simp [zipT]
theorem pair_new {T : Addr} {x y : D} {u v : V} (hr : HR K μ H M) (hT : H T = none) (r1 : Rp K μ H x u) (r2 : Rp K μ H y v) : Ext μ H μ (upd H T (.tup [u, v])) ∧ HR K μ (upd H T (.tup [u, v])) M ∧ Rp K μ (upd H T (.tup [u, v])) (.tup [x, y]) (.ref T) := by
  have e := ext_lay (o := .tup [u, v]) hr hT
  refine ⟨e, hr.lay hT, ?_⟩
  simp only [Rp]
  exact ⟨T, [u, v], rfl, upd_same, .cons (Rp.ext hr.lsts e _ _ r1) (.cons (Rp.ext hr.lsts e _ _ r2) .nil)⟩
def iZip (f g : FE) : FI := fun L M => (f L M).bind fun x M1 => (g L M1).bind fun y M2 => match dz x, dz y with
  | some xs, some ys => .ok ⟨zipT xs ys, none⟩ M2
  | _, _ => .bad
theorem ei_zip {elts : List Expr} {x1} {tpos p : Pos} (hm : X.mg "zip" = none) (ha : Ev X K Z a f) (hb : Ev X K Z b g) (hg : Gl X "zip" := by rfl)
    (hs2 : starEach [a, b] X.env = (false, eval a X.env) :: starEach [b] X.env := by rfl) (hs3 : starEach [b] X.env = (false, eval b X.env) :: starEach [] X.env := by rfl) (hpl2 : (backTo pos (starEach [b] X.env)).any (·.1) = false := by rfl) : Ei X K Z (.Tuple elts x1 tpos) (.Call (.Name "zip" p) [a, b] [] pos) (iZip f g) := by
  have h' := pi_zip (elts := elts) (x1 := x1) (tpos := tpos) (p := p) (pos := pos) hg hm ha.h hb.h hs2 hs3 hpl2
  rw [ha.k] at h'
  refine ⟨ha.k, cqI h' ?_⟩
  rintro σ H R ⟨μ, M, L, hr, lr, p⟩
  refine ⟨μ, M, L, hr, lr, p.bind.imp fun μ1 H1 M1 w e1 hr1 _ p1 v rw' => ?_⟩
  refine ⟨μ1, M1, L, hr1, lr.ext hr.lsts e1, p1.bind.imp fun μ2 H2 M2 w2 e2 hr2 _ p2 v2 rw2 => ?_⟩
  cases q1 : dz w with
  | none => simp only [q1] at p2; exact p2.elim
  | some xs =>
    cases q2 : dz w2 with
    | none => simp only [q1, q2] at p2; exact p2.elim
    | some ys =>
      simp only [q1, q2] at p2
      obtain ⟨b1, l1, vs1, S1, rfl, s1, x1, d1⟩ := src_of (rw'.ext hr1.lsts e2) q1
      obtain ⟨b2, l2, vs2, S2, rfl, s2, x2, d2⟩ := src_of rw2 q2
      refine ⟨l1, l2, b1, b2, vs1, vs2, rfl, rfl, (d1 _ _ s1).1, (d2 _ _ s2).1, p2 μ2 H2 .refl hr2 _ ?_⟩
      refine ⟨fun μ H => S1 μ H ∧ S2 μ H, ⟨s1, s2⟩, fun μ1 H1 μ2 H2 l z e => ⟨x1 _ _ _ _ l z.1 e, x2 _ _ _ _ l z.2 e⟩, fun μ3 H3 M3 i hr3 hS hc => ?_⟩
      obtain ⟨c1, r1⟩ := d1 _ _ hS.1
      obtain ⟨c2, r2⟩ := d2 _ _ hS.2
      refine ⟨fun d hd => ?_, fun hl => ?_⟩
      · obtain ⟨x, y, hx, hy, rfl⟩ := zipT_get hd
        obtain ⟨u, hu, ru⟩ := r1.get hx
        obtain ⟨v, hv, rv⟩ := r2.get hy
        refine ⟨⟨c1, c2, (List.getElem?_eq_some_iff.mp hu).1, (List.getElem?_eq_some_iff.mp hv).1⟩, fun x' H4 hy4 => ?_⟩
        obtain ⟨T, u', v', hT, rfl, hu', hv', rfl⟩ := hy4
        rw [hu] at hu'; cases hu'
        rw [hv] at hv'; cases hv'
        exact pair_new hr3 hT ru rv
      · refine ⟨c1, c2, ?_⟩
        simp only [zipT_length] at hl
        rw [← r1.length, ← r2.length]
        omega
end
section
variable {L : Lc} {M : Mm} {f g : FE}
theorem ok_iZip {QI : Src → Mm → Prop} (h : Ok (f L M) fun x M1 => Ok (g L M1) fun y M2 => ∃ xs ys, dz x = some xs ∧ dz y = some ys ∧ QI ⟨zipT xs ys, none⟩ M2) : Ok (iZip f g L M) QI :=
  ok_bind (h.mono fun x M1 z => ok_bind (z.mono fun y M2 ⟨xs, ys, e1, e2, q⟩ => by simp only [e1, e2]; exact ok_ok q))
end
end EV

set_option Elab.async false
set_option linter.all false
set_option maxRecDepth 100000
set_option maxHeartbeats 4000000
namespace L2
open PySem PySem.Spec PyProof.Rows
section
variable {prog : Program} {w : World} {A : Around} {E : Value → Shared → Prop} {s : Shared}
end
/-- a turn as the loop over the pairs (c + i, item i) has it -/
def tne (b : Bool) (e it src : Addr) (c : Int) (i : Nat) (h : Heap) : Prop := (∃ old, IsEnum h e it (c + i) old) ∧ It0 b h it src i
def Ite (b : Bool) (K : PySem.W.Frag) (src : Addr) (c : Int) (xs : List V) : It :=
  ⟨fun i H => SqB b K H src xs ∧ i < xs.length, fun i H x H' => ∃ T u, H T = none ∧ x = .ref T ∧ xs[i]? = some u ∧ H' = upd H T (.tup [.int (c + i), u]), fun i H => SqB b K H src xs ∧ xs.length ≤ i⟩
end L2
namespace L2
open PySem PySem.Spec PyProof.Rows
open AutoSeq1 (wpAny_loadPart')
/-- what an enumerate over a tuple (a list) is made of -/
abbrev eH1 (b : Bool) (h : Heap) (l : Addr) : Heap := h.push { cls := .type (if b = true then "list_iterator" else "tuple_iterator"), data := .fields #[.ref l, .int 0 0] }
abbrev eH2 (b : Bool) (h : Heap) (l : Addr) (c : Int) : Heap := (eH1 b h l).push { cls := .type "enumerate", data := .fields #[.none, .bool false, .ref h.objs.size, rawInt c, .none, .none] }
section
variable {prog : Program} {w : World} {A : Around} {E : Value → Shared → Prop} {s : Shared}
end
end L2
namespace EV
open PySem PySem.Spec PyProof.Rows L2
section
variable {X : Cx} {K : PySem.W.Frag} {Z : Zt} {μ : List Addr} {H : Hp} {M : Mm} {a b : Expr} {pos : Pos} {f g : FE} {tg : Expr}
def enumT (c : Int) (xs : List D) : List D := xs.mapIdx fun i d => .tup [.int (c + i), d]
def iEnum (f : FE) : FI := fun L M => (f L M).bind fun x M1 => match dz x with
  | some xs => .ok ⟨enumT 0 xs, none⟩ M1
  | _ => .bad
end
section
variable {L : Lc} {M : Mm} {f g : FE}
theorem ok_iEnum {QI : Src → Mm → Prop} (h : Ok (f L M) fun x M1 => ∃ xs, dz x = some xs ∧ QI ⟨enumT 0 xs, none⟩ M1) : Ok (iEnum f L M) QI :=
  ok_bind (h.mono fun x M1 ⟨xs, e1, q⟩ => by simp only [e1]; exact ok_ok q)
end
end EV

set_option Elab.async false
set_option linter.all false
set_option maxRecDepth 100000
set_option maxHeartbeats 4000000
namespace L2
open PySem PySem.Spec PyProof.Rows
open AutoSeq1 (wpAny_loadPart')
section
variable {X : Cx}
/-! ### l.extend(t) -/
def rExtendT (K : PySem.W.Frag) : V → List V → Hp → VK → Prop := fun x vs H Q => ∃ l b xs zs, x = .ref l ∧ vs = [.ref b] ∧ H l = some (.lst xs) ∧ SqT K H b zs ∧ xs.length + zs.length ≤ sizeLine ∧ Q .non (upd H l (.lst (xs ++ zs)))
end
end L2
namespace EV
open PySem PySem.Spec PyProof.Rows L2
section
variable {X : Cx} {K : PySem.W.Frag} {Z : Zt} {μ : List Addr} {H : Hp} {M : Mm} {a b c o e i : Expr} {es : List Expr} {pos : Pos} {fs : FA} {f fa fb fc fo fe fi : FE} {tg : Expr}
def pExtendA (x y : W) (M : Mm) : Oc W := match x, y with
  | .ref k, .d (.tup ys) => match M[k]? with
    | some xs => if xs.length + ys.length ≤ 16777216 then .ok (.d .non) (M.set k (xs ++ ys)) else .bad
    | _ => .bad
  | x, y => pExtend x y M
/-! ### < of ints, of tuples of ints -/
def pLtA (x y : W) (M : Mm) : Oc W := match x, y with
  | .d (.tup xs), .d (.tup ys) => match intsOf xs, intsOf ys with
    | some ns, some ms => okD (.bl (HT.lexLt ns ms)) M
    | _, _ => .bad
  | x, y => pLt x y M
/-! ### [x, y, ..][i], the items may be lists that may be changed -/
def ePick (fs : FA) (fi : FE) : FE := fun L M => (fs L M).bind fun ws M1 => if ws.length ≤ 1000 then (fi L M1).bind fun i M2 => match i with
    | .d (.int j) => match atI ws j with
      | some w => .ok w M2
      | none => .bad
    | _ => .bad
  else .bad
/-! ### for x in (l, m, ..), the items may be lists that may be changed -/
noncomputable def forW (g : FG) (B : FS) : List W → FS
  | [] => fun L M => .ok (.nx L) M
  | w :: r => fun L M => (g w L M).bind fun L1 M1 => (B L1 M1).bind fun o M2 => match o with
      | .nx L2 => forW g B r L2 M2
      | .ct L2 => forW g B r L2 M2
      | .bk L2 => .ok (.nx L2) M2
      | .rt w => .ok (.rt w) M2
noncomputable def sForW (fs : FA) (g : FG) (B : FS) : FS := fun L M => (fs L M).bind fun ws M1 => if ws.length ≤ 1000 then forW g B ws L M1 else .bad
end
section
variable {L : Lc} {M : Mm} {f : FE} {fs : FA} {fi : FE} {x y : W} {Q : W → Mm → Prop} {QS : Out → Mm → Prop}
theorem ok_pick (h : Ok (fs L M) fun ws M1 => ws.length ≤ 1000 ∧ Ok (fi L M1) fun i M2 => ∃ j w, i = .d (.int j) ∧ atI ws j = some w ∧ Q w M2) : Ok (ePick fs fi L M) Q := by
  refine ok_bind (h.mono fun ws M1 ⟨hz, h⟩ => ?_)
  rw [if_pos hz]
  refine ok_bind (h.mono fun i M2 ⟨j, w, e1, e2, q⟩ => ?_)
  subst e1
  simp only [e2]
  exact ok_ok q
theorem ok_ltA {i j : Int} (q : Q (.d (.bl (decide (i < j)))) M) : Ok (pLtA (.d (.int i)) (.d (.int j)) M) Q := ok_ok q
theorem ok_forW {g : FG} {B : FS} (h : Ok (fs L M) fun ws M1 => ws.length ≤ 1000 ∧ Ok (forW g B ws L M1) QS) : Ok (sForW fs g B L M) QS := ok_bind (h.mono fun ws M1 ⟨hz, h⟩ => by rw [if_pos hz]; exact h)
end
end EV

set_option Elab.async false
set_option linter.all false
set_option maxRecDepth 100000
set_option maxHeartbeats 4000000
namespace L2
open PySem PySem.Spec PyProof.Rows
section
variable {prog : Program} {w : World} {A : Around} {E : Value → Shared → Prop} {s : Shared}
end
section
variable {X : Cx} {pos : Pos}
def gTupL (K : PySem.W.Frag) (n : Nat) (t : TGs) : TG := fun v σ H Q => ∃ a xs, v = .ref a ∧ SqL K H a xs ∧ xs.length = n ∧ t xs σ H Q
end
end L2
namespace EV
open PySem PySem.Spec PyProof.Rows L2
section
variable {X : Cx} {K : PySem.W.Frag} {Z : Zt} {es : List Expr} {pos : Pos}
def gTL (n : Nat) (gs : FGs) : FG := fun w L M => match w with
  | .d (.lst xs) => if xs.length = n then gs xs L M else .bad
  | _ => .bad
end
section
variable {L : Lc} {M : Mm} {QG : Lc → Mm → Prop}
theorem ok_gTL {n : Nat} {gs : FGs} {xs : List D} (hn : xs.length = n) (h : Ok (gs xs L M) QG) : Ok (gTL n gs (.d (.lst xs)) L M) QG := by unfold gTL; simp only; rw [if_pos hn]; exact h
end
end EV

set_option Elab.async false
set_option linter.all false
set_option maxRecDepth 100000
set_option maxHeartbeats 4000000
namespace L2
open PySem PySem.Spec PyProof.Rows
/-! ### a comprehension within a comprehension -/
def relab (scope sc0 : Scope) : Scope :=
  { scope with names := scope.names.map fun (n, k) => if (k == .free && sc0.kind == .function && sc0.names.lookup n == some .cell) then (n, .cell) else (n, k) }
end L2
namespace EV
open PySem PySem.Spec PyProof.Rows L2
section
variable {X : Cx} {K : PySem.W.Frag} {Z : Zt}
def pMulR (x y : W) (M : Mm) : Oc W := match y with
  | .d (.int k) => match lv M x with
    | some xs => if xs.length * k.toNat ≤ 16777216 ∧ k < 9223372036854775808 ∧ -9223372036854775808 ≤ k then .ok (.ref M.length) (M ++ [(List.replicate k.toNat xs).flatten]) else .bad
    | none => .bad
  | _ => .bad
end
section
variable {L : Lc} {M : Mm} {x : W} {Q : W → Mm → Prop}
end
end EV

set_option Elab.async false
set_option linter.all false
set_option maxRecDepth 100000
set_option maxHeartbeats 4000000
namespace EV
open PySem PySem.Spec PyProof.Rows L2
section
variable {X : Cx} {K : PySem.W.Frag} {Z : Zt} {μ : List Addr} {H : Hp} {M : Mm} {a tg : Expr} {pos pos2 : Pos} {f : FE}
/-! ### for i in reversed(range(n)) -/
def downD (n : Nat) : List D := (List.range n).map fun i => D.int ((n : Int) - 1 - (i : Nat))
theorem downD_get {n i : Nat} {d : D} (h : (downD n)[i]? = some d) : i < n ∧ d = .int ((n : Int) - 1 - (i : Nat)) := by
  unfold downD at h
  rw [List.getElem?_map, Option.map_eq_some_iff] at h
  obtain ⟨k, h1, rfl⟩ := h
  obtain ⟨h2, h3⟩ := List.getElem?_eq_some_iff.mp h1
  simp only [List.length_range] at h2
  simp only [List.getElem_range] at h3
  subst h3
  exact ⟨h2, rfl⟩
theorem downD_length {n : Nat} : (downD n).length = n := by simp [downD]
theorem itd_ok {n : Nat} : ItOk K μ H ⟨downD n, none⟩ (Itd n) :=
  ⟨fun _ _ => True, trivial, fun _ _ _ _ _ _ _ => trivial, fun μ1 H1 M1 i hr _ _ => ⟨fun d hd => by
    obtain ⟨h1, rfl⟩ := downD_get hd
    refine ⟨h1, fun x H2 y => ?_⟩
    obtain ⟨rfl, rfl⟩ := y
    exact ⟨.refl, hr, by simp [Rp]⟩, fun h => by rw [show (Src.ds ⟨downD n, none⟩) = downD n from rfl, downD_length] at h; exact h⟩⟩
def iDown (f : FE) : FI := fun L M => (f L M).bind fun w M1 => match w with
  | .d (.int j) => if 0 ≤ j ∧ j < 4611686018427387904 then .ok ⟨downD j.toNat, none⟩ M1 else .bad
  | _ => .bad
theorem ei_down {p p2 : Pos} (hm : X.mg "reversed" = none) (hm2 : X.mg "range" = none) (ha : Ev X K Z a f) (hg : Gl X "reversed" := by rfl) (hg2 : Gl X "range" := by rfl) (hs : starEach [a] X.env = [(false, eval a X.env)] := by rfl)
    (hs2 : starEach [.Call (.Name "range" p2) [a] [] pos2] X.env = [(false, eval (.Call (.Name "range" p2) [a] [] pos2) X.env)] := by rfl) : Ei X K Z tg (.Call (.Name "reversed" p) [.Call (.Name "range" p2) [a] [] pos2] [] pos) (iDown f) := by
  refine ⟨ha.k, cqI (pi_revR (tg := tg) (p := p) (pos := pos) hg hm (pa_cons (pe_callTy call_range1 hg2 hm2 boot_range' (pa_cons ha.h pa_nil hs) (by decide) (by decide) hs rfl) pa_nil hs2) hs2) ?_⟩
  rintro σ H R ⟨μ, M, L, hr, lr, p⟩
  refine ⟨μ, M, L, hr, lr, p.bind.imp fun μ1 H1 M1 w e1 hr1 _ p1 v rw' => ?_⟩
  cases w with
  | ref i => exact p1.elim
  | d x => cases x with
    | int j =>
      simp only at p1
      split at p1
      · rename_i hz
        simp only [Rw, Rp] at rw'
        subst rw'
        refine ⟨j, rfl, fun q hq => ⟨q, j, rfl, upd_same, hz.1, by simpa using hz.2, ?_⟩⟩
        exact p1 μ1 _ (ext_lay hr1 hq) (hr1.lay hq) _ itd_ok
      · exact p1.elim
    | _ => exact p1.elim
end
section
variable {L : Lc} {M : Mm} {f : FE}
theorem ok_iDown {QI : Src → Mm → Prop} (h : Ok (f L M) fun x M1 => ∃ j : Int, x = .d (.int j) ∧ 0 ≤ j ∧ j < 4611686018427387904 ∧ QI ⟨downD j.toNat, none⟩ M1) : Ok (iDown f L M) QI :=
  ok_bind (h.mono fun x M1 ⟨j, e, h0, h1, q⟩ => by subst e; simp only; rw [if_pos ⟨h0, h1⟩]; exact ok_ok q)
end
end EV

set_option Elab.async false
set_option linter.all false
set_option maxRecDepth 100000
set_option maxHeartbeats 4000000
namespace EV
open PySem PySem.Spec PyProof.Rows L2
section
variable {X : Cx} {K : PySem.W.Frag} {Z : Zt} {pos : Pos} {F : FS}
/-! ### try: a suite that raises nothing -/
/-! ### lists made on the way to data are forgotten -/
def eTrim (f : FE) : FE := fun L M => (f L M).bind fun w M' => match w with
  | .d x => .ok (.d x) (M'.take M.length)
  | _ => .bad
theorem ev_trim {e : Expr} {f : FE} (h : Ev X K Z e f) : Ev X K Z e (eTrim f) := by
  refine ⟨h.k, cqE h.h ?_⟩
  rintro σ H Q ⟨μ, M, L, hr, lr, p⟩
  refine ⟨μ, M, L, hr, lr, p.bind.imp fun μ' H' M' w e hr' eq p1 v rv => ?_⟩
  cases w with
  | ref i => exact p1.elim
  | d x =>
    have hsub : ∀ a, a ∈ μ → a ∈ μ' := fun a ha => by rw [← e.take] at ha; exact List.mem_of_mem_take ha
    have q1 := hr'.back e
    unfold eTrim at p
    rw [eq] at p
    exact p μ H' e.back (by rw [← hr.len]; exact q1) v (Rp.sub hsub x v rv)
end
section
variable {L : Lc} {M : Mm} {f : FE} {Q : W → Mm → Prop}
theorem ok_trim (h : Ok (f L M) fun w M' => ∃ x, w = .d x ∧ Q (.d x) (M'.take M.length)) : Ok (eTrim f L M) Q :=
  ok_bind (h.mono fun w M' ⟨x, e, q⟩ => by subst e; exact ok_ok q)
end
end EV

set_option Elab.async false
set_option linter.all false
set_option maxRecDepth 100000
set_option maxHeartbeats 4000000
namespace LS
open PySem L2 EV
/-! ### rests -/
def Cg (n a b : Int) : Prop := ∃ k, a = b + n * k
theorem Cg.rfl {n a : Int} : Cg n a a := ⟨0, by simp⟩
theorem Cg.symm {n a b : Int} (h : Cg n a b) : Cg n b a := by obtain ⟨k, rfl⟩ := h; exact ⟨-k, by grind⟩
theorem Cg.trans {n a b c : Int} (h : Cg n a b) (g : Cg n b c) : Cg n a c := by obtain ⟨k, rfl⟩ := h; obtain ⟨l, rfl⟩ := g; exact ⟨k + l, by grind⟩
theorem Cg.add {n a b c d : Int} (h : Cg n a b) (g : Cg n c d) : Cg n (a + c) (b + d) := by obtain ⟨k, rfl⟩ := h; obtain ⟨l, rfl⟩ := g; exact ⟨k + l, by grind⟩
theorem Cg.sub {n a b c d : Int} (h : Cg n a b) (g : Cg n c d) : Cg n (a - c) (b - d) := by obtain ⟨k, rfl⟩ := h; obtain ⟨l, rfl⟩ := g; exact ⟨k - l, by grind⟩
theorem Cg.neg {n a b : Int} (h : Cg n a b) : Cg n (-a) (-b) := by obtain ⟨k, rfl⟩ := h; exact ⟨-k, by grind⟩
theorem Cg.mul {n a b c d : Int} (h : Cg n a b) (g : Cg n c d) : Cg n (a * c) (b * d) := by obtain ⟨k, rfl⟩ := h; obtain ⟨l, rfl⟩ := g; exact ⟨b * l + d * k + n * k * l, by grind⟩
theorem Cg.mod {n a : Int} : Cg n (a % n) a := ⟨-(a / n), by have := Int.emod_def a n; grind⟩
theorem Cg.modT {n a b : Int} (h : Cg n a b) : Cg n (a % n) b := Cg.mod.trans h
theorem Cg.emod {n a b : Int} (h : Cg n a b) : a % n = b % n := by obtain ⟨k, rfl⟩ := h; simp [Int.add_mul_emod_self_left]
theorem Cg.of {n a b : Int} (h : a % n = b % n) : Cg n a b := Cg.mod.symm.trans (h ▸ Cg.mod)
theorem Cg.of_eq {n a b : Int} (h : a = b) : Cg n a b := h ▸ Cg.rfl
local macro_rules | `(tactic| decreasing_trivial_pre_omega) => `(tactic| with_reducible first
  | apply Cg.modT | apply Cg.add | apply Cg.sub | apply Cg.mul | apply Cg.neg | exact Cg.rfl)
/-- a deed -/
inductive Dd
  | add (s : Nat) (c : Int) (gs ts : List Nat)
  | scale (s : Nat) (u : Int)
def natsD (xs : List Nat) : D := .tup (xs.map fun k => .int (k : Nat))
def intsD (xs : List Int) : D := .tup (xs.map .int)
def encD : Dd → D
  | .add s c gs ts => .tup [.str "add", .int s, .int c, natsD gs, natsD ts]
  | .scale s u => .tup [.str "scale", .int s, .int u]
/-- what lies at the places, multiplied -/
def pr (xs : List Int) (is : List Nat) : Int := is.foldl (fun a i => a * xs.getD i 0) 1
theorem pr_nil (xs : List Int) : pr xs [] = 1 := rfl
def dn (n : Int) (gs cs : List Int) : Dd → List Int
  | .add s c g t => cs.set s ((cs.getD s 0 + c * pr gs g * pr cs t) % n)
  | .scale s u => cs.set s (cs.getD s 0 * u % n)
def rn (n : Int) (gs : List Int) (ds : List Dd) (cs : List Int) : List Int := ds.foldl (fun cs d => dn n gs cs d) cs
theorem rn_nil {n : Int} {gs cs : List Int} : rn n gs [] cs = cs := rfl
theorem rn_cons {n : Int} {gs cs : List Int} {d : Dd} {ds : List Dd} : rn n gs (d :: ds) cs = rn n gs ds (dn n gs cs d) := rfl
/-- rests -/
def Rs (n : Int) (cs : List Int) : Prop := ∀ c ∈ cs, 0 ≤ c ∧ c < n
theorem Rs.getD {n : Int} {cs : List Int} (h : Rs n cs) {i : Nat} (hi : i < cs.length) : 0 ≤ cs.getD i 0 ∧ cs.getD i 0 < n := h _ (by simp [hi])
theorem Rs.getD0 {n : Int} {cs : List Int} (h : Rs n cs) (hn : 0 < n) {i : Nat} : 0 ≤ cs.getD i 0 ∧ cs.getD i 0 < n := by
  by_cases hi : i < cs.length
  · exact h.getD hi
  · simp [List.getElem?_eq_none (Nat.le_of_not_lt hi)]; exact hn
theorem Rs.set {n : Int} {cs : List Int} (h : Rs n cs) {i : Nat} {v : Int} (l : 0 ≤ v) (u : v < n) : Rs n (cs.set i v) := by
  intro c hc
  rcases List.mem_or_eq_of_mem_set hc with hc | rfl
  · exact h c hc
  · exact ⟨l, u⟩
theorem Rs.setM {n : Int} {cs : List Int} (hn : 0 < n) (h : Rs n cs) {i : Nat} {v : Int} : Rs n (cs.set i (v % n)) := h.set (Int.emod_nonneg _ (by omega)) (Int.emod_lt_of_pos _ hn)
theorem Rs.dn {n : Int} {gs cs : List Int} (hn : 0 < n) (h : Rs n cs) {d : Dd} : Rs n (dn n gs cs d) := by cases d <;> exact h.setM hn
theorem Rs.rn {n : Int} {gs : List Int} (hn : 0 < n) {ds : List Dd} : ∀ {cs : List Int}, Rs n cs → Rs n (rn n gs ds cs) := by
  induction ds with
  | nil => intro cs h; exact h
  | cons d ds ih => intro cs h; rw [rn_cons]; exact ih (h.dn hn)
/-- the inverse -/
def IsIv (n u v : Int) : Prop := 0 ≤ v ∧ v < n ∧ (u * v) % n = 1 % n
theorem IsIv.uniq {n u v w : Int} (h : IsIv n u v) (g : IsIv n u w) : v = w := by
  obtain ⟨l, k, e⟩ := h
  obtain ⟨l', k', e'⟩ := g
  have e1 : Cg n (u * v) 1 := Cg.of e
  have e2 : Cg n (u * w) 1 := Cg.of e'
  have : Cg n v w := by
    have h1 : Cg n v (v * (u * w)) := by simpa using Cg.mul (Cg.rfl (a := v)) e2.symm
    have h2 : Cg n ((u * v) * w) (1 * w) := Cg.mul e1 Cg.rfl
    exact h1.trans ((Cg.of_eq (by grind)).trans (h2.trans (Cg.of_eq (by grind))))
  have := this.emod
  rwa [Int.emod_eq_of_lt l k, Int.emod_eq_of_lt l' k'] at this
open Classical in
noncomputable def iv (n u : Int) : Int := if h : ∃ v, IsIv n u v then Classical.choose h else 0
theorem iv_of {n u v : Int} (h : IsIv n u v) : iv n u = v := by
  have hx : ∃ v, IsIv n u v := ⟨v, h⟩
  unfold iv
  rw [dif_pos hx]
  exact (Classical.choose_spec hx).uniq h
theorem iv_spec {n u : Int} (h : ∃ v, IsIv n u v) : IsIv n u (iv n u) := by obtain ⟨v, h⟩ := h; rw [iv_of h]; exact h
def Un (n u : Int) : Prop := 0 ≤ u ∧ u < n ∧ ∃ v, IsIv n u v
theorem Un.iv {n u : Int} (h : Un n u) : Un n (iv n u) := by
  have h' := iv_spec h.2.2
  exact ⟨h'.1, h'.2.1, u, h.1, h.2.1, by rw [Int.mul_comm]; exact h'.2.2⟩
/-- a deed as it has to be -/
def OkD (n : Int) (G S : Nat) : Dd → Prop
  | .add s c g t => s < S ∧ 0 ≤ c ∧ c < n ∧ (∀ i ∈ g, i < G) ∧ (∀ i ∈ t, i < S) ∧ s ∉ t ∧ g.length ≤ 4 ∧ t.length ≤ 4
  | .scale s u => s < S ∧ Un n u
noncomputable def bD (n : Int) : Dd → Dd
  | .add s c g t => .add s (-c % n) g t
  | .scale s u => .scale s (iv n u)
noncomputable def bDs (n : Int) (ds : List Dd) : List Dd := ds.reverse.map (bD n)
theorem OkD.back {n : Int} {G S : Nat} (hn : 0 < n) {d : Dd} (h : OkD n G S d) : OkD n G S (bD n d) := by
  cases d with
  | add s c g t => obtain ⟨a, b, c, r⟩ := h; exact ⟨a, Int.emod_nonneg _ (by omega), Int.emod_lt_of_pos _ hn, r⟩
  | scale s u => exact ⟨h.1, h.2.iv⟩
/-! ### expressions -/
inductive Wd | sum | less | times
def Wd.str : Wd → Str
  | .sum => "sum"
  | .less => "less"
  | .times => "times"
def Wd.ev (n : Int) : Wd → Int → Int → Int
  | .sum, x, y => (x + y) % n
  | .less, x, y => (x - y) % n
  | .times, x, y => x * y % n
inductive E
  | num (c : Int)
  | giv (i : Nat)
  | op (w : Wd) (a b : E)
def enc : E → D
  | .num c => .tup [.str "num", .int c]
  | .giv i => .tup [.str "given", .int i]
  | .op w a b => .tup [.str w.str, enc a, enc b]
def val (n : Int) (gs : List Int) : E → Int
  | .num c => c % n
  | .giv i => gs.getD i 0
  | .op w a b => w.ev n (val n gs a) (val n gs b)
def dp : E → Nat
  | .num _ => 0
  | .giv _ => 0
  | .op _ a b => max (dp a) (dp b) + 1
def wf (m : Nat) : E → Prop
  | .num c => 0 ≤ c ∧ c < 1000000
  | .giv i => i < m
  | .op _ a b => wf m a ∧ wf m b
theorem wf.mono {m k : Nat} (h : m ≤ k) : ∀ {e : E}, wf m e → wf k e
  | .num _, w => w
  | .giv _, w => Nat.lt_of_lt_of_le w h
  | .op _ _ _, w => ⟨w.1.mono h, w.2.mono h⟩
theorem val_range {n : Int} {gs : List Int} (hn : 0 < n) (hg : Rs n gs) : ∀ {e : E}, 0 ≤ val n gs e ∧ val n gs e < n := by
  intro e
  cases e with
  | num c => exact ⟨Int.emod_nonneg _ (by omega), Int.emod_lt_of_pos _ hn⟩
  | giv i => exact hg.getD0 hn
  | op w a b => cases w <;> exact ⟨Int.emod_nonneg _ (by omega), Int.emod_lt_of_pos _ hn⟩
noncomputable def rowBy (n : Int) : E → Nat → Nat → Nat → List Dd
  | .num c, s, b, _ => [.add s (c % n) [] [b]]
  | .giv i, s, b, _ => [.add s 1 [i] [b]]
  | .op .sum x y, s, b, c => rowBy n x s b c ++ rowBy n y s b c
  | .op .less x y, s, b, c => rowBy n x s b c ++ bDs n (rowBy n y s b c)
  | .op .times x y, s, b, c => rowBy n y c b s ++ rowBy n x s c b ++ bDs n (rowBy n y c b s) ++ bDs n (rowBy n x s c b)
noncomputable def rowAl (n : Int) : E → Nat → Nat → Nat → List Dd
  | .num c, s, _, _ => [.add s (c % n) [] []]
  | .giv i, s, _, _ => [.add s 1 [i] []]
  | .op .sum x y, s, b, c => rowAl n x s b c ++ rowAl n y s b c
  | .op .less x y, s, b, c => rowAl n x s b c ++ bDs n (rowAl n y s b c)
  | .op .times x y, s, b, c => rowAl n y c b s ++ rowBy n x s c b ++ bDs n (rowAl n y c b s) ++ bDs n (rowBy n x s c b)
def many : E → Nat
  | .num _ => 1
  | .giv _ => 1
  | .op .times a b => 2 * (many a + many b)
  | .op _ a b => many a + many b
end LS

set_option Elab.async false
set_option linter.all false
set_option maxRecDepth 100000
set_option maxHeartbeats 4000000
namespace LS
open PySem L2 EV
theorem at0 (d : D) (ds : List D) : atI (d :: ds) 0 = some d := by
  simp only [atI, ixN, List.length_cons]
  rw [if_pos (by omega), if_pos (by omega)]
  rfl
theorem at2 {d : Int} (l : 0 ≤ d) (u : d < 2) (x y : D) : ∃ w, atI [x, y] d = some w ∧ (w = x ∨ w = y) := by
  have : d = 0 ∨ d = 1 := by omega
  rcases this with rfl | rfl
  · exact ⟨x, rfl, by simp⟩
  · exact ⟨y, rfl, by simp⟩
theorem at3 {d : Int} (l : 0 ≤ d) (u : d < 3) (x y z : D) : ∃ w, atI [x, y, z] d = some w ∧ (w = x ∨ w = y ∨ w = z) := by
  have : d = 0 ∨ d = 1 ∨ d = 2 := by omega
  rcases this with rfl | rfl | rfl
  · exact ⟨x, rfl, by simp⟩
  · exact ⟨y, rfl, by simp⟩
  · exact ⟨z, rfl, by simp⟩
theorem atInts {ns : List Int} {i : Int} (l : 0 ≤ i) (u : i < ns.length) : ∃ n, atI (ns.map D.int) i = some (.int n) ∧ n ∈ ns := by
  have hi : i.toNat < ns.length := by omega
  refine ⟨ns[i.toNat], ?_, by simp⟩
  simp only [atI, ixN, List.length_map]
  rw [if_pos l, if_pos u]
  simp [hi]
/-! ### runs -/
theorem get_int {cs : List Int} {i : Nat} (h : i < cs.length) : atI (cs.map D.int) (i : Int) = some (.int (cs.getD i 0)) := by
  simp only [atI, ixN, List.length_map]
  rw [if_pos (by omega), if_pos (by omega)]
  simp [h]
theorem cut_hi {cs : List D} {s : Nat} (h : s ≤ cs.length) : cut cs (some (s : Int)) none = cs.drop s := by
  simp only [cut, HT.sIx]
  rw [if_neg (by omega)]
  simp only [Int.toNat_natCast]
  rw [Nat.min_eq_left h, List.take_of_length_le (by simp)]
def encP (n G S : Int) (ds : List Dd) : D := .tup [.int n, .int G, .int S, .tup (ds.map encD)]
mutual
theorem eqD_refl : ∀ d : D, eqD d d = true
  | .non => by simp [eqD]
  | .bl b => by simp [eqD]
  | .int i => by simp [eqD]
  | .str x => by simp [eqD]
  | .tup xs => by simp only [eqD]; exact eqDs_refl xs
  | .lst xs => by simp only [eqD]; exact eqDs_refl xs
  | .fz xs => by simp only [eqD]; exact eqDs_refl xs
theorem eqDs_refl : ∀ ds : List D, eqDs ds ds = true
  | [] => by simp [eqDs]
  | d :: ds => by simp only [eqDs, eqD_refl d, eqDs_refl ds, Bool.and_true]
end
section
variable {M : Mm} {x y : W} {Q : W → Mm → Prop}
theorem ok_eqT {a b : D} (h1 : wd M x = some a) (h2 : wd M y = some b) (e : a = b) (hd : dep a ≤ 100) (q : Q (.d (.bl true)) M) : Ok (pEq x y M) Q := by
  subst e
  exact ok_eq h1 h2 hd (by rw [eqD_refl]; exact q)
end
end LS
namespace LS
open PySem L2 EV
/-- factors don't fall -/
def SrtD : Dd → Prop
  | .add _ _ g t => g.Pairwise (· ≤ ·) ∧ t.Pairwise (· ≤ ·)
  | .scale _ _ => True
def othersL (S ks : Nat) : List Nat := (List.range S).filter (· ≠ ks)
end LS
namespace LS
open PySem L2 EV
end LS
namespace LS
open PySem L2 EV
/-! ### renamed -/
def srtN (ns : List Nat) : List Nat := (srt (ns.map fun k : Nat => (k : Int))).map Int.toNat
def pl (ps : List Nat) (i : Nat) : Nat := ps.getD i 0
def mxN (ps : List Nat) : Nat := (mxL (ps.map fun k : Nat => (k : Int))).toNat
def rnD (ps : List Nat) : Dd → Dd
  | .add s c g t => .add (pl ps s) c g (srtN (t.map (pl ps)))
  | .scale s u => .scale (pl ps s) u
end LS
namespace LS
open PySem L2 EV
/-! ### past one another -/
def ho : Dd → Dd → Bool
  | .scale _ _, _ => false
  | .add s _ _ t, .scale s' _ => decide (s' = s) || decide (s' ∈ t)
  | .add _ _ _ t, .add s' _ _ _ => decide (s' ∈ t)
def gp (a b : Dd) : Bool := !ho a b && !ho b a
def kdD : Dd → D
  | .add s _ g t => .tup [.str "add", .int s, natsD g, natsD t]
  | .scale s _ => .tup [.str "scale", .int s]
end LS
namespace LS
open PySem L2 EV
end LS

set_option Elab.async false
set_option linter.all false
set_option maxRecDepth 100000
set_option maxHeartbeats 4000000
namespace K37
open PySem L2 EV
def top (i : Nat) : Stmt := PySem.Challenge.pw_lentshelf_k37_whole_sayings_worth_one_or.main.body.getD i (.Pass ⟨0, 0, 0, 0⟩)
abbrev s_inverse : Stmt := top 4
abbrev s_holds : Stmt := top 6
abbrev s_said : Stmt := top 7
abbrev s_said_least : Stmt := top 8
abbrev s_step_numbers : Stmt := top 9
abbrev s_inverse_of : Stmt := top 10
abbrev s_worth : Stmt := top 12
abbrev s_l_box : Stmt := top 14
abbrev s_l_take : Stmt := top 15
abbrev s_l_n : Stmt := top 16
abbrev s_l_worth : Stmt := top 17
abbrev s_l_shared : Stmt := top 18
abbrev s_l_saying : Stmt := top 19
abbrev s_l_holds : Stmt := top 20
abbrev s_l_most : Stmt := top 21
abbrev s_l_all : Stmt := top 22
abbrev s_law : Stmt := top 23
noncomputable def b_inverse : FS :=
  (sSeq (sPar 2 3 (aCons (eV 0) (aCons (e2 pMod (eV 1) (eV 0)) aNil)))
    (sSeq (sAs (eA mkT (aCons (eC (.int 0)) (aCons (eC (.int 1)) aNil))) (gT 2 (gsCons (gN 4) (gsCons (gN 5) gsNil))))
    (sSeq (whileD (EV.tB (e2 pGt (eV 3) (eC (.int 0))))
    (sSeq (sAs (e2 pDiv (eV 2) (eV 3)) (gN 6))
    (sSeq (sPar 2 3 (aCons (eV 3) (aCons (e2 pSub (eV 2) (e2 pMulA (eV 6) (eV 3))) aNil)))
    (sPar 4 5 (aCons (eV 5) (aCons (e2 pSub (eV 4) (e2 pMulA (eV 6) (eV 5))) aNil))))) NW)
    (sSeq (sIf (EV.tB (e2 pNe (eV 2) (eC (.int 1))))
    (sRt (eC .non))
    sNil)
    (sRt (e2 pMod (eV 4) (eV 0)))))))
noncomputable def F_inverse : Fn := fnD 2 7 b_inverse
theorem len_inverse {ws : List W} {M : Mm} (h : ws.length ≠ 2) : F_inverse ws M = .bad := if_neg h
noncomputable def b_holds (r_holds : Fn) : FS :=
  (sSeq (sAs (e2 pIx (eV 0) (eC (.int 0))) (gN 2))
    (sSeq (sIf (EV.tB (e2 pEq (eV 2) (eC (.str "yes"))))
    (sRt (e2 pEq (e2 pIx (eV 1) (e2 pIx (eV 0) (eC (.int 1)))) (eC (.int 1))))
    sNil)
    (sSeq (sIf (EV.tB (e2 pEq (eV 2) (eC (.str "not"))))
    (sRt (e1 pNot (eA r_holds (aCons (e2 pIx (eV 0) (eC (.int 1))) (aCons (eV 1) aNil)))))
    sNil)
    (sSeq (sIf (EV.tB (e2 pEq (eV 2) (eC (.str "and"))))
    (sRt (eAnd (eA r_holds (aCons (e2 pIx (eV 0) (eC (.int 1))) (aCons (eV 1) aNil))) (eA r_holds (aCons (e2 pIx (eV 0) (eC (.int 2))) (aCons (eV 1) aNil)))))
    sNil)
    (sSeq (sIf (EV.tB (e2 pEq (eV 2) (eC (.str "or"))))
    (sRt (eOr (eA r_holds (aCons (e2 pIx (eV 0) (eC (.int 1))) (aCons (eV 1) aNil))) (eA r_holds (aCons (e2 pIx (eV 0) (eC (.int 2))) (aCons (eV 1) aNil)))))
    sNil)
    (sRt (e2 pGe (eA cLen (aCons (eComp [none, some 1] (iE (e2 pIx (eV 0) (eC (.int 2)))) (gN 0) (tV (eA r_holds (aCons (eV 0) (aCons (eV 1) aNil)))) (eV 0)) aNil)) (e2 pIx (eV 0) (eC (.int 1))))))))))
noncomputable def F_holds : Nat → Fn
  | 0 => fun _ _ => .bad
  | d + 1 => fnD 2 3 (b_holds (F_holds d))
theorem len_holds : ∀ {d : Nat} {ws : List W} {M : Mm}, ws.length ≠ 2 → F_holds d ws M = .bad
  | 0, _, _, _ => by simp only [F_holds]
  | d + 1, _, _, h => by simp only [F_holds]; exact if_neg h
noncomputable def b_inverse_of : FS :=
  (sSeq (sAs (eA F_inverse (aCons (eV 0) (aCons (eV 1) aNil))) (gN 2))
    (sSeq (sIf (EV.tB (e2 pIs (eV 2) (eC .non)))
    sBad
    sNil)
    (sRt (eV 2))))
noncomputable def F_inverse_of : Fn := fnD 2 3 b_inverse_of
theorem len_inverse_of {ws : List W} {M : Mm} (h : ws.length ≠ 2) : F_inverse_of ws M = .bad := if_neg h
noncomputable def b_step_numbers : FS :=
  (sSeq (sAs (eA mkR (aCons (e2 pMod (e2 pIx (eV 1) (eC (.int 0))) (eV 0)) aNil)) (gN 2))
    (sSeq (sAs (eV 1) (gN 3))
    (sSeq (sAs (eC (.int 1)) (gN 4))
    (sSeq (sFor (iR2 (eC (.int 1)) (eA cLen (aCons (eV 1) aNil))) (gN 5)
    (sSeq (sAs (eComp [none, none] (iZip (eV 3) (eSl (eV 3) (oAt (eC (.int 1))) oNo)) (gT 2 (gsCons (gN 0) (gsCons (gN 1) gsNil))) EV.tYes (e2 pSub (eV 1) (eV 0))) (gN 3))
    (sSeq (sAs (e2 pMod (e2 pMulA (eV 4) (eA F_inverse_of (aCons (eV 0) (aCons (eV 5) aNil)))) (eV 0)) (gN 4))
    (sEx (eM1 pAppend (eV 2) (e2 pMod (e2 pMulA (e2 pIx (eV 3) (eC (.int 0))) (eV 4)) (eV 0)))))))
    (sRt (eV 2))))))
noncomputable def F_step_numbers : Fn := fnD 2 6 b_step_numbers
theorem len_step_numbers {ws : List W} {M : Mm} (h : ws.length ≠ 2) : F_step_numbers ws M = .bad := if_neg h
noncomputable def b_said_least : FS :=
  (sSeq (sAs (eA cLen (aCons (eV 2) aNil)) (gN 3))
    (sSeq (sAs (e2 pIx (eV 2) (eC (.int 0))) (gN 4))
    (sSeq (sFor (iE (eSl (eV 2) (oAt (eC (.int 1))) oNo)) (gN 5)
    (sAs (eA mkT (aCons (eC (.str "sum")) (aCons (eV 4) (aCons (eV 5) aNil)))) (gN 4)))
    (sSeq (sAs (eA F_step_numbers (aCons (eV 0) (aCons (eComp [none, some 1] (iR1 (e2 pAdd (eV 3) (eC (.int 1)))) (gN 0) EV.tYes (eIf (EV.tB (e2 pGe (eV 0) (eV 1))) (eC (.int 1)) (eC (.int 0)))) aNil))) (gN 6))
    (sSeq (sAs (eA mkT (aCons (eC (.str "num")) (aCons (e2 pIx (eV 6) (eV 3)) aNil))) (gN 7))
    (sSeq (sFor (iDown (eV 3)) (gN 8)
    (sAs (eA mkT (aCons (eC (.str "sum")) (aCons (eA mkT (aCons (eC (.str "num")) (aCons (e2 pIx (eV 6) (eV 8)) aNil))) (aCons (eA mkT (aCons (eC (.str "times")) (aCons (eA mkT (aCons (eC (.str "less")) (aCons (eV 4) (aCons (eA mkT (aCons (eC (.str "num")) (aCons (eV 8) aNil))) aNil)))) (aCons (eV 7) aNil)))) aNil)))) (gN 7)))
    (sRt (eV 7))))))))
noncomputable def F_said_least : Fn := fnD 3 9 b_said_least
theorem len_said_least {ws : List W} {M : Mm} (h : ws.length ≠ 3) : F_said_least ws M = .bad := if_neg h
noncomputable def b_said (r_said : Fn) : FS :=
  (sSeq (sAs (e2 pIx (eV 1) (eC (.int 0))) (gN 2))
    (sSeq (sIf (EV.tB (e2 pEq (eV 2) (eC (.str "yes"))))
    (sRt (eA mkT (aCons (eC (.str "given")) (aCons (e2 pIx (eV 1) (eC (.int 1))) aNil))))
    sNil)
    (sSeq (sIf (EV.tB (e2 pEq (eV 2) (eC (.str "not"))))
    (sRt (eA mkT (aCons (eC (.str "less")) (aCons (eA mkT (aCons (eC (.str "num")) (aCons (eC (.int 1)) aNil))) (aCons (eA r_said (aCons (eV 0) (aCons (e2 pIx (eV 1) (eC (.int 1))) aNil))) aNil)))))
    sNil)
    (sSeq (sIf (EV.tB (e2 pEq (eV 2) (eC (.str "least"))))
    (sRt (eA F_said_least (aCons (eV 0) (aCons (e2 pIx (eV 1) (eC (.int 1))) (aCons (eComp [none, some 0] (iE (e2 pIx (eV 1) (eC (.int 2)))) (gN 0) EV.tYes (eA r_said (aCons (eV 1) (aCons (eV 0) aNil)))) aNil)))))
    sNil)
    (sSeq (sAs (eA r_said (aCons (eV 0) (aCons (e2 pIx (eV 1) (eC (.int 1))) aNil))) (gN 3))
    (sSeq (sAs (eA r_said (aCons (eV 0) (aCons (e2 pIx (eV 1) (eC (.int 2))) aNil))) (gN 4))
    (sSeq (sIf (EV.tB (e2 pEq (eV 2) (eC (.str "and"))))
    (sRt (eA mkT (aCons (eC (.str "times")) (aCons (eV 3) (aCons (eV 4) aNil)))))
    sNil)
    (sRt (eA mkT (aCons (eC (.str "less")) (aCons (eA mkT (aCons (eC (.str "sum")) (aCons (eV 3) (aCons (eV 4) aNil)))) (aCons (eA mkT (aCons (eC (.str "times")) (aCons (eV 3) (aCons (eV 4) aNil)))) aNil))))))))))))
noncomputable def F_said : Nat → Fn
  | 0 => fun _ _ => .bad
  | d + 1 => fnD 2 5 (b_said (F_said d))
theorem len_said : ∀ {d : Nat} {ws : List W} {M : Mm}, ws.length ≠ 2 → F_said d ws M = .bad
  | 0, _, _, _ => by simp only [F_said]
  | d + 1, _, _, h => by simp only [F_said]; exact if_neg h
noncomputable def b_worth (r_worth : Fn) : FS :=
  (sSeq (sAs (e2 pIx (eV 1) (eC (.int 0))) (gN 3))
    (sSeq (sIf (EV.tB (e2 pEq (eV 3) (eC (.str "num"))))
    (sRt (e2 pMod (e2 pIx (eV 1) (eC (.int 1))) (eV 0)))
    sNil)
    (sSeq (sIf (EV.tB (e2 pEq (eV 3) (eC (.str "given"))))
    (sRt (e2 pMod (e2 pIx (eV 2) (e2 pIx (eV 1) (eC (.int 1)))) (eV 0)))
    sNil)
    (sSeq (sAs (eA r_worth (aCons (eV 0) (aCons (e2 pIx (eV 1) (eC (.int 1))) (aCons (eV 2) aNil)))) (gN 4))
    (sSeq (sAs (eA r_worth (aCons (eV 0) (aCons (e2 pIx (eV 1) (eC (.int 2))) (aCons (eV 2) aNil)))) (gN 5))
    (sSeq (sIf (EV.tB (e2 pEq (eV 3) (eC (.str "sum"))))
    (sRt (e2 pMod (e2 pAdd (eV 4) (eV 5)) (eV 0)))
    sNil)
    (sSeq (sIf (EV.tB (e2 pEq (eV 3) (eC (.str "less"))))
    (sRt (e2 pMod (e2 pSub (eV 4) (eV 5)) (eV 0)))
    sNil)
    (sRt (e2 pMod (e2 pMulA (eV 4) (eV 5)) (eV 0))))))))))
noncomputable def F_worth : Nat → Fn
  | 0 => fun _ _ => .bad
  | d + 1 => fnD 3 6 (b_worth (F_worth d))
theorem len_worth : ∀ {d : Nat} {ws : List W} {M : Mm}, ws.length ≠ 3 → F_worth d ws M = .bad
  | 0, _, _, _ => by simp only [F_worth]
  | d + 1, _, _, h => by simp only [F_worth]; exact if_neg h
noncomputable def b_l_box : FS :=
  (sSeq (sAs (e2 pAdd (e2 pMulA (eC (.int 7919)) (eV 1)) (eC (.int 11))) (gN 2))
    (sSeq (sIf (EV.tB (e2 pLt (eV 1) (eA cLen (aCons (eV 0) aNil))))
    (sAs (e2 pIx (eV 0) (eV 1)) (gN 2))
    (sIf (EV.tB (e2 pGt (eA cLen (aCons (eV 0) aNil)) (eC (.int 0))))
    (sAs (e2 pAdd (eV 2) (e2 pMulA (e2 pMod (e2 pIx (eV 0) (e2 pMod (eV 1) (eA cLen (aCons (eV 0) aNil)))) (eC (.int 2147483629))) (eC (.int 69623)))) (gN 2))
    sNil))
    (sSeq (sAs (e2 pAdd (e2 pMod (e2 pAdd (e2 pMulA (e2 pMod (eV 2) (eC (.int 2147483629))) (eC (.int 48271))) (e2 pMulA (eC (.int 40692)) (eV 1))) (eC (.int 2147483629))) (eC (.int 1))) (gN 3))
    (sRt (eA mkR (aCons (e2 pIx (eA mkL (aCons (eC (.int 0)) (aCons (eV 2) aNil))) (eA cInt (aCons (e2 pGe (eV 2) (e2 pPow (eC (.int 10)) (eC (.int 18)))) aNil))) (aCons (eV 3) (aCons (eC (.int 0)) aNil))))))))
noncomputable def F_l_box : Fn := fnR 2 4 b_l_box
theorem len_l_box {ws : List W} {M : Mm} (h : ws.length ≠ 2) : F_l_box ws M = .bad := if_neg h
noncomputable def b_l_take : FS :=
  (sSeq (sIf (EV.tB (e2 pGt (e2 pIx (eV 0) (eC (.int 0))) (eC (.int 0))))
    (sSeq (sAs (e2 pMod (e2 pIx (eV 0) (eC (.int 0))) (eV 1)) (gN 2))
    (sSeq (sAs (e2 pDiv (e2 pIx (eV 0) (eC (.int 0))) (eV 1)) (gS (eV 0) (eC (.int 0))))
    (sRt (eV 2))))
    sNil)
    (sSeq (sAs (e2 pAdd (e2 pIx (eV 0) (eC (.int 2))) (eC (.int 1))) (gS (eV 0) (eC (.int 2))))
    (sSeq (sAs (e2 pMod (e2 pMulA (e2 pAdd (e2 pIx (eV 0) (eC (.int 1))) (e2 pMulA (eC (.int 104729)) (e2 pIx (eV 0) (eC (.int 2))))) (eC (.int 69623))) (eC (.int 2147483647))) (gN 3))
    (sSeq (sAs (e2 pAdd (e2 pMod (e2 pAdd (e2 pMulA (eV 3) (eC (.int 48271))) (eC (.int 30103))) (eC (.int 2147483629))) (eC (.int 1))) (gS (eV 0) (eC (.int 1))))
    (sRt (e2 pMod (e2 pDiv (e2 pAdd (e2 pMulA (eV 3) (eC (.int 2147483647))) (e2 pIx (eV 0) (eC (.int 1)))) (eC (.int 8191))) (eV 1)))))))
noncomputable def F_l_take : Fn := fnD 2 4 b_l_take
theorem len_l_take {ws : List W} {M : Mm} (h : ws.length ≠ 2) : F_l_take ws M = .bad := if_neg h
noncomputable def b_l_n : FS :=
  (sSeq (sAs (eA F_l_take (aCons (eV 0) (aCons (eC (.int 6)) aNil))) (gN 1))
    (sSeq (sAs (eInts [2, 3, 4, 5, 6, 7, 8, 9, 12, 16, 30, 36, 49, 64, 91, 97, 210, 1009, 65536, 999983, 999999, 1000000]) (gN 2))
    (sSeq (sAs (e2 pIx (eV 2) (eA F_l_take (aCons (eV 0) (aCons (eC (.int 22)) aNil)))) (gN 3))
    (sSeq (sIf (EV.tB (e2 pEq (eV 1) (eC (.int 0))))
    (sRt (e2 pAdd (eC (.int 2)) (eA F_l_take (aCons (eV 0) (aCons (eC (.int 999999)) aNil)))))
    sNil)
    (sSeq (sIf (EV.tB (e2 pLt (eV 1) (eC (.int 3))))
    (sRt (e2 pAdd (eC (.int 2)) (eA F_l_take (aCons (eV 0) (aCons (eC (.int 11)) aNil)))))
    sNil)
    (sRt (eV 3)))))))
noncomputable def F_l_n : Fn := fnD 1 4 b_l_n
theorem len_l_n {ws : List W} {M : Mm} (h : ws.length ≠ 1) : F_l_n ws M = .bad := if_neg h
noncomputable def b_l_worth (r_l_worth : Fn) : FS :=
  (sSeq (sIf (EV.tB (e2 pEq (e2 pIx (eV 1) (eC (.int 0))) (eC (.str "num"))))
    (sRt (e2 pMod (e2 pIx (eV 1) (eC (.int 1))) (eV 0)))
    sNil)
    (sSeq (sIf (EV.tB (e2 pEq (e2 pIx (eV 1) (eC (.int 0))) (eC (.str "given"))))
    (sRt (e2 pIx (eV 2) (e2 pIx (eV 1) (eC (.int 1)))))
    sNil)
    (sSeq (sPar 3 4 (aCons (eA r_l_worth (aCons (eV 0) (aCons (e2 pIx (eV 1) (eC (.int 1))) (aCons (eV 2) aNil)))) (aCons (eA r_l_worth (aCons (eV 0) (aCons (e2 pIx (eV 1) (eC (.int 2))) (aCons (eV 2) aNil)))) aNil)))
    (sSeq (sIf (EV.tB (e2 pEq (e2 pIx (eV 1) (eC (.int 0))) (eC (.str "sum"))))
    (sRt (e2 pMod (e2 pAdd (eV 3) (eV 4)) (eV 0)))
    sNil)
    (sSeq (sIf (EV.tB (e2 pEq (e2 pIx (eV 1) (eC (.int 0))) (eC (.str "less"))))
    (sRt (e2 pMod (e2 pSub (eV 3) (eV 4)) (eV 0)))
    sNil)
    (sRt (e2 pMod (e2 pMulA (eV 3) (eV 4)) (eV 0))))))))
noncomputable def F_l_worth : Nat → Fn
  | 0 => fun _ _ => .bad
  | d + 1 => fnD 3 5 (b_l_worth (F_l_worth d))
theorem len_l_worth : ∀ {d : Nat} {ws : List W} {M : Mm}, ws.length ≠ 3 → F_l_worth d ws M = .bad
  | 0, _, _, _ => by simp only [F_l_worth]
  | d + 1, _, _, h => by simp only [F_l_worth]; exact if_neg h
noncomputable def b_l_shared : FS :=
  (sSeq (whileD (EV.tB (e2 pGt (eV 1) (eC (.int 0))))
    (sPar 0 1 (aCons (eV 1) (aCons (e2 pMod (eV 0) (eV 1)) aNil))) NW)
    (sRt (eV 0)))
noncomputable def F_l_shared : Fn := fnD 2 2 b_l_shared
theorem len_l_shared {ws : List W} {M : Mm} (h : ws.length ≠ 2) : F_l_shared ws M = .bad := if_neg h
noncomputable def b_l_saying (r_l_saying : Fn) : FS :=
  (sSeq (sAs (eA F_l_take (aCons (eV 0) (aCons (eC (.int 6)) aNil))) (gN 3))
    (sSeq (sIf (EV.tOr (EV.tB (e2 pLt (eV 2) (eC (.int 2)))) (EV.tB (e2 pEq (eV 3) (eC (.int 0)))))
    (sRt (eA mkT (aCons (eC (.str "yes")) (aCons (eA F_l_take (aCons (eV 0) (aCons (eV 1) aNil))) aNil))))
    sNil)
    (sSeq (sIf (EV.tB (e2 pEq (eV 3) (eC (.int 1))))
    (sRt (eA mkT (aCons (eC (.str "not")) (aCons (eA r_l_saying (aCons (eV 0) (aCons (eV 1) (aCons (e2 pSub (eV 2) (eC (.int 1))) aNil)))) aNil))))
    sNil)
    (sSeq (sIf (EV.tOr (EV.tB (e2 pLt (eV 2) (eC (.int 3)))) (EV.tB (e2 pLt (eV 3) (eC (.int 4)))))
    (sSeq (sAs (e2 pAdd (eC (.int 1)) (eA F_l_take (aCons (eV 0) (aCons (eA cMin2 (aCons (eC (.int 5)) (aCons (e2 pSub (eV 2) (eC (.int 1))) aNil))) aNil)))) (gN 4))
    (sSeq (sPar 5 6 (aCons (eA mkR aNil) (aCons (e2 pSub (eV 2) (eC (.int 1))) aNil)))
    (sSeq (sFor (iR1 (eV 4)) (gN 7)
    (sSeq (sAs (e2 pAdd (eC (.int 1)) (eA F_l_take (aCons (eV 0) (aCons (e2 pSub (eV 6) (e2 pSub (e2 pSub (eV 4) (eC (.int 1))) (eV 7))) aNil)))) (gN 8))
    (sSeq (sEx (eM1 pAppend (eV 5) (eA r_l_saying (aCons (eV 0) (aCons (eV 1) (aCons (eV 8) aNil))))))
    (sAs (e2 pSub (eV 6) (eV 8)) (gN 6)))))
    (sRt (eA mkT (aCons (eC (.str "least")) (aCons (eA F_l_take (aCons (eV 0) (aCons (eC (.int 7)) aNil))) (aCons (eA cTup (aCons (eV 5) aNil)) aNil))))))))
    sNil)
    (sSeq (sAs (e2 pAdd (eC (.int 1)) (eA F_l_take (aCons (eV 0) (aCons (e2 pSub (eV 2) (eC (.int 2))) aNil)))) (gN 8))
    (sSeq (sAs (eA r_l_saying (aCons (eV 0) (aCons (eV 1) (aCons (eV 8) aNil)))) (gN 9))
    (sRt (eA mkT (aCons (e2 pIx (eA mkL (aCons (eC (.str "and")) (aCons (eC (.str "or")) aNil))) (e2 pSub (eV 3) (eC (.int 4)))) (aCons (eV 9) (aCons (eA r_l_saying (aCons (eV 0) (aCons (eV 1) (aCons (e2 pSub (e2 pSub (eV 2) (eC (.int 1))) (eV 8)) aNil)))) aNil)))))))))))
noncomputable def F_l_saying : Nat → Fn
  | 0 => fun _ _ => .bad
  | d + 1 => fnD 3 10 (b_l_saying (F_l_saying d))
theorem len_l_saying : ∀ {d : Nat} {ws : List W} {M : Mm}, ws.length ≠ 3 → F_l_saying d ws M = .bad
  | 0, _, _, _ => by simp only [F_l_saying]
  | d + 1, _, _, h => by simp only [F_l_saying]; exact if_neg h
noncomputable def b_l_holds (r_l_holds : Fn) : FS :=
  (sSeq (sAs (e2 pIx (eV 0) (eC (.int 0))) (gN 2))
    (sSeq (sIf (EV.tB (e2 pEq (eV 2) (eC (.str "yes"))))
    (sRt (e2 pEq (e2 pIx (eV 1) (e2 pIx (eV 0) (eC (.int 1)))) (eC (.int 1))))
    sNil)
    (sSeq (sIf (EV.tB (e2 pEq (eV 2) (eC (.str "not"))))
    (sRt (e1 pNot (eA r_l_holds (aCons (e2 pIx (eV 0) (eC (.int 1))) (aCons (eV 1) aNil)))))
    sNil)
    (sSeq (sIf (EV.tB (e2 pEq (eV 2) (eC (.str "least"))))
    (sRt (e2 pGe (eA cLen (aCons (eComp [none, some 1] (iE (e2 pIx (eV 0) (eC (.int 2)))) (gN 0) (tV (eA r_l_holds (aCons (eV 0) (aCons (eV 1) aNil)))) (eV 0)) aNil)) (e2 pIx (eV 0) (eC (.int 1)))))
    sNil)
    (sSeq (sAs (eA mkL (aCons (eA r_l_holds (aCons (e2 pIx (eV 0) (eC (.int 1))) (aCons (eV 1) aNil))) (aCons (eA r_l_holds (aCons (e2 pIx (eV 0) (eC (.int 2))) (aCons (eV 1) aNil))) aNil))) (gN 3))
    (sRt (e2 pIx (eA mkL (aCons (eOr (e2 pIx (eV 3) (eC (.int 0))) (e2 pIx (eV 3) (eC (.int 1)))) (aCons (eAnd (e2 pIx (eV 3) (eC (.int 0))) (e2 pIx (eV 3) (eC (.int 1)))) aNil))) (eA cInt (aCons (e2 pEq (eV 2) (eC (.str "and"))) aNil)))))))))
noncomputable def F_l_holds : Nat → Fn
  | 0 => fun _ _ => .bad
  | d + 1 => fnD 2 4 (b_l_holds (F_l_holds d))
theorem len_l_holds : ∀ {d : Nat} {ws : List W} {M : Mm}, ws.length ≠ 2 → F_l_holds d ws M = .bad
  | 0, _, _, _ => by simp only [F_l_holds]
  | d + 1, _, _, h => by simp only [F_l_holds]; exact if_neg h
noncomputable def b_l_most (r_l_most : Fn) : FS :=
  (sSeq (sIf (EV.tB (e2 pEq (e2 pIx (eV 0) (eC (.int 0))) (eC (.str "yes"))))
    (sRt (eC (.int 1)))
    sNil)
    (sSeq (sIf (EV.tB (e2 pEq (e2 pIx (eV 0) (eC (.int 0))) (eC (.str "least"))))
    (sRt (eA cMaxL (aCons (e2 pAdd (eA mkL (aCons (eA cLen (aCons (e2 pIx (eV 0) (eC (.int 2))) aNil)) aNil)) (eComp [none] (iE (e2 pIx (eV 0) (eC (.int 2)))) (gN 0) EV.tYes (eA r_l_most (aCons (eV 0) aNil)))) aNil)))
    sNil)
    (sRt (eA cMaxL (aCons (eComp [none] (iE (eSl (eV 0) (oAt (eC (.int 1))) oNo)) (gN 0) EV.tYes (eA r_l_most (aCons (eV 0) aNil))) aNil)))))
noncomputable def F_l_most : Nat → Fn
  | 0 => fun _ _ => .bad
  | d + 1 => fnD 1 1 (b_l_most (F_l_most d))
theorem len_l_most : ∀ {d : Nat} {ws : List W} {M : Mm}, ws.length ≠ 1 → F_l_most d ws M = .bad
  | 0, _, _, _ => by simp only [F_l_most]
  | d + 1, _, _, h => by simp only [F_l_most]; exact if_neg h
noncomputable def b_l_all : FS :=
  (sSeq (sAs (eA mkL (aCons (eA mkT aNil) aNil)) (gN 1))
    (sSeq (sFor (iR1 (eV 0)) (gN 2)
    (sAs (e2 pAdd (eComp [none] (iE (eV 1)) (gN 0) EV.tYes (e2 pAdd (eV 0) (eA mkT (aCons (eC (.int 0)) aNil)))) (eComp [none] (iE (eV 1)) (gN 0) EV.tYes (e2 pAdd (eV 0) (eA mkT (aCons (eC (.int 1)) aNil))))) (gN 1)))
    (sRt (eV 1))))
noncomputable def F_l_all : Fn := fnD 1 3 b_l_all
theorem len_l_all {ws : List W} {M : Mm} (h : ws.length ≠ 1) : F_l_all ws M = .bad := if_neg h
noncomputable def b_law : FS :=
  (sSeq (sAs (eA F_l_box (aCons (eV 0) (aCons (eC (.int 0)) aNil))) (gN 1))
    (sSeq (sAs (e2 pAdd (eC (.int 1)) (eA F_l_take (aCons (eV 1) (aCons (eC (.int 3)) aNil)))) (gN 2))
    (sSeq (sAs (eA (F_l_saying 200) (aCons (eV 1) (aCons (eV 2) (aCons (e2 pIx (eA mkL (aCons (eC (.int 10)) (aCons (eC (.int 10)) (aCons (eC (.int 6)) aNil)))) (eA F_l_take (aCons (eV 1) (aCons (eC (.int 3)) aNil)))) aNil)))) (gN 3))
    (sSeq (sIf (EV.tB (e2 pEq (eA F_l_take (aCons (eV 1) (aCons (eC (.int 3)) aNil))) (eC (.int 0))))
    (sSeq (sAs (eA cTup (aCons (eComp [none, some 2, some 0] (iR1 (eC (.int 5))) (gN 0) EV.tYes (eTrim (eA (F_l_saying 200) (aCons (eA F_l_box (aCons (eV 2) (aCons (e2 pAdd (eC (.int 1)) (eV 0)) aNil))) (aCons (eV 1) (aCons (eC (.int 1)) aNil)))))) aNil)) (gN 4))
    (sAs (eA mkT (aCons (eC (.str "least")) (aCons (eA F_l_take (aCons (eV 1) (aCons (eC (.int 7)) aNil))) (aCons (eV 4) aNil)))) (gN 3)))
    sNil)
    (sSeq (sAs (eA cMin2 (aCons (eA F_l_n (aCons (eA F_l_box (aCons (eV 0) (aCons (eC (.int 6)) aNil))) aNil)) (aCons (eC (.int 999000)) aNil))) (gN 5))
    (sSeq (whileD (tV (eA cAny (aCons (eComp [none, some 5] (iR2 (eC (.int 1)) (e2 pAdd (eA (F_l_most 200) (aCons (eV 3) aNil)) (eC (.int 1)))) (gN 0) EV.tYes (e2 pNe (eA F_l_shared (aCons (eV 1) (aCons (eV 0) aNil))) (eC (.int 1)))) aNil)))
    (sAs (e2 pAdd (eV 5) (eC (.int 1))) (gN 5)) NW)
    (sSeq (sAs (eA (F_said 200) (aCons (eV 5) (aCons (eV 3) aNil))) (gN 6))
    (sSeq (sFor (iE (eA F_l_all (aCons (eV 2) aNil))) (gN 7)
    (sSeq (sAs (eA cInt (aCons (eA (F_l_holds 200) (aCons (eV 3) (aCons (eV 7) aNil))) aNil)) (gN 8))
    (sSeq (sIf (EV.tOr (EV.tB (e2 pNe (eA (F_l_worth 200) (aCons (eV 5) (aCons (eV 6) (aCons (eV 7) aNil)))) (eV 8))) (EV.tB (e2 pNe (eA (F_worth 200) (aCons (eV 5) (aCons (eV 6) (aCons (eV 7) aNil)))) (eV 8))))
    (sRt (eC (.bl false)))
    sNil)
    (sIf (EV.tB (e2 pNe (eA (F_holds 200) (aCons (eV 3) (aCons (eV 7) aNil))) (e2 pEq (eV 8) (eC (.int 1)))))
    (sRt (eC (.bl false)))
    sNil))))
    (sRt (e2 pEq (eA (F_said 200) (aCons (eV 5) (aCons (eV 3) aNil))) (eV 6)))))))))))
noncomputable def F_law : Fn := fnD 1 9 b_law
structure Adr where
  a_inverse : Addr
  d_inverse : FuncData
  a_holds : Addr
  d_holds : FuncData
  a_said : Addr
  d_said : FuncData
  a_said_least : Addr
  d_said_least : FuncData
  a_step_numbers : Addr
  d_step_numbers : FuncData
  a_inverse_of : Addr
  d_inverse_of : FuncData
  a_worth : Addr
  d_worth : FuncData
  a_l_box : Addr
  d_l_box : FuncData
  a_l_take : Addr
  d_l_take : FuncData
  a_l_n : Addr
  d_l_n : FuncData
  a_l_worth : Addr
  d_l_worth : FuncData
  a_l_shared : Addr
  d_l_shared : FuncData
  a_l_saying : Addr
  d_l_saying : FuncData
  a_l_holds : Addr
  d_l_holds : FuncData
  a_l_most : Addr
  d_l_most : FuncData
  a_l_all : Addr
  d_l_all : FuncData
  a_law : Addr
  d_law : FuncData
structure Tx (K : PySem.W.Frag) (mg : Str → Option Value) (a : Adr) : Prop where
  f_inverse : Fun K "inverse" "inverse" s_inverse a.a_inverse a.d_inverse
  b_inverse : Binds K a.d_inverse ["n", "k"] []
  k_inverse : PySem.W.keepIn K (.ref a.a_inverse) = true
  m_inverse : mg "inverse" = some (.ref a.a_inverse)
  f_holds : Fun K "holds" "holds" s_holds a.a_holds a.d_holds
  b_holds : Binds K a.d_holds ["saying", "answers"] []
  k_holds : PySem.W.keepIn K (.ref a.a_holds) = true
  m_holds : mg "holds" = some (.ref a.a_holds)
  f_said : Fun K "said" "said" s_said a.a_said a.d_said
  b_said : Binds K a.d_said ["n", "saying"] []
  k_said : PySem.W.keepIn K (.ref a.a_said) = true
  m_said : mg "said" = some (.ref a.a_said)
  f_said_least : Fun K "said_least" "said_least" s_said_least a.a_said_least a.d_said_least
  b_said_least : Binds K a.d_said_least ["n", "k", "parts"] []
  k_said_least : PySem.W.keepIn K (.ref a.a_said_least) = true
  m_said_least : mg "said_least" = some (.ref a.a_said_least)
  f_step_numbers : Fun K "step_numbers" "step_numbers" s_step_numbers a.a_step_numbers a.d_step_numbers
  b_step_numbers : Binds K a.d_step_numbers ["n", "row"] []
  k_step_numbers : PySem.W.keepIn K (.ref a.a_step_numbers) = true
  m_step_numbers : mg "step_numbers" = some (.ref a.a_step_numbers)
  f_inverse_of : Fun K "inverse_of" "inverse_of" s_inverse_of a.a_inverse_of a.d_inverse_of
  b_inverse_of : Binds K a.d_inverse_of ["n", "number"] []
  k_inverse_of : PySem.W.keepIn K (.ref a.a_inverse_of) = true
  m_inverse_of : mg "inverse_of" = some (.ref a.a_inverse_of)
  f_worth : Fun K "worth" "worth" s_worth a.a_worth a.d_worth
  b_worth : Binds K a.d_worth ["n", "expr", "givens"] []
  k_worth : PySem.W.keepIn K (.ref a.a_worth) = true
  m_worth : mg "worth" = some (.ref a.a_worth)
  f_l_box : Fun K "_law_box" "_law_box" s_l_box a.a_l_box a.d_l_box
  b_l_box : Binds K a.d_l_box ["_law_script", "_law_k"] []
  k_l_box : PySem.W.keepIn K (.ref a.a_l_box) = true
  m_l_box : mg "_law_box" = some (.ref a.a_l_box)
  f_l_take : Fun K "_law_take" "_law_take" s_l_take a.a_l_take a.d_l_take
  b_l_take : Binds K a.d_l_take ["_law_box_here", "_law_many"] []
  k_l_take : PySem.W.keepIn K (.ref a.a_l_take) = true
  m_l_take : mg "_law_take" = some (.ref a.a_l_take)
  f_l_n : Fun K "_law_n" "_law_n" s_l_n a.a_l_n a.d_l_n
  b_l_n : Binds K a.d_l_n ["_law_box_here"] []
  k_l_n : PySem.W.keepIn K (.ref a.a_l_n) = true
  m_l_n : mg "_law_n" = some (.ref a.a_l_n)
  f_l_worth : Fun K "_law_worth" "_law_worth" s_l_worth a.a_l_worth a.d_l_worth
  b_l_worth : Binds K a.d_l_worth ["_law_n_here", "_law_expr", "_law_given"] []
  k_l_worth : PySem.W.keepIn K (.ref a.a_l_worth) = true
  m_l_worth : mg "_law_worth" = some (.ref a.a_l_worth)
  f_l_shared : Fun K "_law_shared" "_law_shared" s_l_shared a.a_l_shared a.d_l_shared
  b_l_shared : Binds K a.d_l_shared ["_law_one", "_law_other"] []
  k_l_shared : PySem.W.keepIn K (.ref a.a_l_shared) = true
  m_l_shared : mg "_law_shared" = some (.ref a.a_l_shared)
  f_l_saying : Fun K "_law_saying" "_law_saying" s_l_saying a.a_l_saying a.d_l_saying
  b_l_saying : Binds K a.d_l_saying ["_law_box_here", "_law_givens", "_law_room"] []
  k_l_saying : PySem.W.keepIn K (.ref a.a_l_saying) = true
  m_l_saying : mg "_law_saying" = some (.ref a.a_l_saying)
  f_l_holds : Fun K "_law_holds" "_law_holds" s_l_holds a.a_l_holds a.d_l_holds
  b_l_holds : Binds K a.d_l_holds ["_law_saying_here", "_law_answers"] []
  k_l_holds : PySem.W.keepIn K (.ref a.a_l_holds) = true
  m_l_holds : mg "_law_holds" = some (.ref a.a_l_holds)
  f_l_most : Fun K "_law_most" "_law_most" s_l_most a.a_l_most a.d_l_most
  b_l_most : Binds K a.d_l_most ["_law_saying_here"] []
  k_l_most : PySem.W.keepIn K (.ref a.a_l_most) = true
  m_l_most : mg "_law_most" = some (.ref a.a_l_most)
  f_l_all : Fun K "_law_all" "_law_all" s_l_all a.a_l_all a.d_l_all
  b_l_all : Binds K a.d_l_all ["_law_many"] []
  k_l_all : PySem.W.keepIn K (.ref a.a_l_all) = true
  m_l_all : mg "_law_all" = some (.ref a.a_l_all)
  f_law : Fun K "law" "law" s_law a.a_law a.d_law
  b_law : Binds K a.d_law ["_law_script"] []
  k_law : PySem.W.keepIn K (.ref a.a_law) = true
  m_law : mg "law" = some (.ref a.a_law)
  z_any : mg "any" = none
  z_int : mg "int" = none
  z_len : mg "len" = none
  z_max : mg "max" = none
  z_min : mg "min" = none
  z_range : mg "range" = none
  z_reversed : mg "reversed" = none
  z_tuple : mg "tuple" = none
  z_zip : mg "zip" = none
theorem sc_inverse : FnScope ["n", "k", "high", "low", "past", "now", "times"] ["n", "k"] (defScope s_inverse) := ⟨rfl, rfl, rfl, by decide +kernel, rfl, by decide +kernel, by decide +kernel⟩
theorem sc_holds : FnScope ["saying", "answers", "word"] ["saying", "answers"] (defScope s_holds) := ⟨rfl, rfl, rfl, by decide +kernel, rfl, by decide +kernel, by decide +kernel⟩
theorem sc_said : FnScope ["n", "saying", "word", "one", "other"] ["n", "saying"] (defScope s_said) := ⟨rfl, rfl, rfl, by decide +kernel, rfl, by decide +kernel, by decide +kernel⟩
theorem sc_said_least : FnScope ["n", "k", "parts", "many", "total", "part", "numbers", "told", "i"] ["n", "k", "parts"] (defScope s_said_least) := ⟨rfl, rfl, rfl, by decide +kernel, rfl, by decide +kernel, by decide +kernel⟩
theorem sc_step_numbers : FnScope ["n", "row", "told", "left", "over", "i"] ["n", "row"] (defScope s_step_numbers) := ⟨rfl, rfl, rfl, by decide +kernel, rfl, by decide +kernel, by decide +kernel⟩
theorem sc_inverse_of : FnScope ["n", "number", "told"] ["n", "number"] (defScope s_inverse_of) := ⟨rfl, rfl, rfl, by decide +kernel, rfl, by decide +kernel, by decide +kernel⟩
theorem sc_worth : FnScope ["n", "expr", "givens", "word", "one", "other"] ["n", "expr", "givens"] (defScope s_worth) := ⟨rfl, rfl, rfl, by decide +kernel, rfl, by decide +kernel, by decide +kernel⟩
theorem sc_l_box : FnScope ["_law_script", "_law_k", "_law_cell", "_law_seed"] ["_law_script", "_law_k"] (defScope s_l_box) := ⟨rfl, rfl, rfl, by decide +kernel, rfl, by decide +kernel, by decide +kernel⟩
theorem sc_l_take : FnScope ["_law_box_here", "_law_many", "_law_digit", "_law_one"] ["_law_box_here", "_law_many"] (defScope s_l_take) := ⟨rfl, rfl, rfl, by decide +kernel, rfl, by decide +kernel, by decide +kernel⟩
theorem sc_l_n : FnScope ["_law_box_here", "_law_shape", "_law_some", "_law_number"] ["_law_box_here"] (defScope s_l_n) := ⟨rfl, rfl, rfl, by decide +kernel, rfl, by decide +kernel, by decide +kernel⟩
theorem sc_l_worth : FnScope ["_law_n_here", "_law_expr", "_law_given", "_law_one", "_law_other"] ["_law_n_here", "_law_expr", "_law_given"] (defScope s_l_worth) := ⟨rfl, rfl, rfl, by decide +kernel, rfl, by decide +kernel, by decide +kernel⟩
theorem sc_l_shared : FnScope ["_law_one", "_law_other"] ["_law_one", "_law_other"] (defScope s_l_shared) := ⟨rfl, rfl, rfl, by decide +kernel, rfl, by decide +kernel, by decide +kernel⟩
theorem sc_l_saying : FnScope ["_law_box_here", "_law_givens", "_law_room", "_law_shape", "_law_many", "_law_args", "_law_left", "_law_j", "_law_one", "_law_first"] ["_law_box_here", "_law_givens", "_law_room"] (defScope s_l_saying) := ⟨rfl, rfl, rfl, by decide +kernel, rfl, by decide +kernel, by decide +kernel⟩
theorem sc_l_holds : FnScope ["_law_saying_here", "_law_answers", "_law_word", "_law_both"] ["_law_saying_here", "_law_answers"] (defScope s_l_holds) := ⟨rfl, rfl, rfl, by decide +kernel, rfl, by decide +kernel, by decide +kernel⟩
theorem sc_l_most : FnScope ["_law_saying_here"] ["_law_saying_here"] (defScope s_l_most) := ⟨rfl, rfl, rfl, by decide +kernel, rfl, by decide +kernel, by decide +kernel⟩
theorem sc_l_all : FnScope ["_law_many", "_law_found", "_law_k"] ["_law_many"] (defScope s_l_all) := ⟨rfl, rfl, rfl, by decide +kernel, rfl, by decide +kernel, by decide +kernel⟩
theorem sc_law : FnScope ["_law_script", "_law_box_here", "_law_givens", "_law_saying_here", "_law_parts", "_law_n_here", "_law_expr", "_law_answers", "_law_due"] ["_law_script"] (defScope s_law) := ⟨rfl, rfl, rfl, by decide +kernel, rfl, by decide +kernel, by decide +kernel⟩
section
variable {P : Program} {w : World} {K : PySem.W.Frag} {mg : Str → Option Value} {base : Heap} {a : Adr}
theorem ok_inverse (T : Tx K mg a) : FnOk P w K mg base CX0 1 a.a_inverse a.d_inverse ["n", "k"] (spF K Z0 2 F_inverse) :=
  fn_ok (k := 0) T.f_inverse sc_inverse fun cdv A outer s H E hr => show Ess _ K Z0 (defBody s_inverse) b_inverse from
    (ess_cons (es_par (i := 2) (j := 3) rfl sc_inverse.nd (ea_cons (ev_var 0) (ea_cons (ev_op opMod (ev_var 1) (ev_var 0)) ea_nil)))
    (ess_cons (es_asg (ev_tup (ea_cons ev_int (ea_cons ev_int ea_nil))) (eg_tup rfl (egs_cons (eg_name (i := 4) sc_inverse.nd) (egs_cons (eg_name (i := 5) sc_inverse.nd) egs_nil))))
    (ess_cons (es_while NW PassesOwn.never (et_cmp opGt (ev_var 3) ev_int (nomark _))
    (ess_cons (es_set (i := 6) sc_inverse.nd (ev_op opDiv (ev_var 2) (ev_var 3)))
    (ess_cons (es_par (i := 2) (j := 3) rfl sc_inverse.nd (ea_cons (ev_var 3) (ea_cons (ev_op opSub (ev_var 2) (ev_op opMulA (ev_var 6) (ev_var 3))) ea_nil)))
    (ess_one (es_par (i := 4) (j := 5) rfl sc_inverse.nd (ea_cons (ev_var 5) (ea_cons (ev_op opSub (ev_var 4) (ev_op opMulA (ev_var 6) (ev_var 5))) ea_nil)))))))
    (ess_cons (es_if (et_cmp (opNe (hu_room hr)) (ev_var 2) ev_int (nomark _))
    (ess_one (es_ret ev_non))
    ess_nil)
    (ess_one (es_ret (ev_op opMod (ev_var 4) (ev_var 0))))))))
theorem ok_holds_grp (T : Tx K mg a) : ∀ d : Nat, FnOk P w K mg base CX0 (d + 0) a.a_holds a.d_holds ["saying", "answers"] (spF K Z0 2 (F_holds (d)))
  | 0 => fn_bad rfl
  | d + 1 => by
    have ih := ok_holds_grp T d
    have ih_holds := ih
    rw [show d + 1 + 0 = (d + 0) + 1 by omega]
    exact fn_ok (k := d + 0) T.f_holds sc_holds fun cdv A outer s H E hr => show Ess _ K Z0 (defBody s_holds) (b_holds (F_holds d)) from
    (ess_cons (es_set (i := 2) sc_holds.nd (ev_ix (ev_var 0) ev_int))
    (ess_cons (es_if (et_cmp (opEq (hu_room hr)) (ev_var 2) ev_str (nomark _))
    (ess_one (es_ret (ev_cmp (opEq (hu_room hr)) (ev_ix (ev_var 1) (ev_ix (ev_var 0) ev_int)) ev_int (nomark _))))
    ess_nil)
    (ess_cons (es_if (et_cmp (opEq (hu_room hr)) (ev_var 2) ev_str (nomark _))
    (ess_one (es_ret (ev_not (ev_call ih_holds hr T.m_holds T.k_holds T.b_holds (ea_cons (ev_ix (ev_var 0) ev_int) (ea_cons (ev_var 1) ea_nil)) (hlen := fun _ _ h => len_holds h)))))
    ess_nil)
    (ess_cons (es_if (et_cmp (opEq (hu_room hr)) (ev_var 2) ev_str (nomark _))
    (ess_one (es_ret (ev_and (ev_call ih_holds hr T.m_holds T.k_holds T.b_holds (ea_cons (ev_ix (ev_var 0) ev_int) (ea_cons (ev_var 1) ea_nil)) (hlen := fun _ _ h => len_holds h)) (ev_one (ev_call ih_holds hr T.m_holds T.k_holds T.b_holds (ea_cons (ev_ix (ev_var 0) ev_int) (ea_cons (ev_var 1) ea_nil)) (hlen := fun _ _ h => len_holds h))))))
    ess_nil)
    (ess_cons (es_if (et_cmp (opEq (hu_room hr)) (ev_var 2) ev_str (nomark _))
    (ess_one (es_ret (ev_or (ev_call ih_holds hr T.m_holds T.k_holds T.b_holds (ea_cons (ev_ix (ev_var 0) ev_int) (ea_cons (ev_var 1) ea_nil)) (hlen := fun _ _ h => len_holds h)) (ev_one (ev_call ih_holds hr T.m_holds T.k_holds T.b_holds (ea_cons (ev_ix (ev_var 0) ev_int) (ea_cons (ev_var 1) ea_nil)) (hlen := fun _ _ h => len_holds h))))))
    ess_nil)
    (ess_one (es_ret (ev_cmp opGe (ev_callB callLen rfl T.z_len PySem.boot_len (ea_cons (ev_comp rfl (CompOk.of (N0 := ["saying", "answers", "word"]) (sc0 := defScope s_holds) (Nc := ["part", "answers"]) (js := [none, some 1]) (by decide +kernel)) (ei_e (ev_ix (ev_var 0) ev_int)) (fun _ _ _ _ _ _ => (eg_name (i := 0) (show (["part", "answers"] : List Str).Nodup by decide +kernel))) (fun _ _ _ _ _ _ => (eif_one (et_val (ev_call ih_holds hr T.m_holds T.k_holds T.b_holds (ea_cons (ev_var 0) (ea_cons (ev_var 1) ea_nil)) (hlen := fun _ _ h => len_holds h))))) (fun _ _ _ _ _ _ => (ev_var 0))) ea_nil)) (ev_ix (ev_var 0) ev_int) (nomark _)))))))))
theorem ok_holds (d : Nat) (T : Tx K mg a) : FnOk P w K mg base CX0 (d + 0) a.a_holds a.d_holds ["saying", "answers"] (spF K Z0 2 (F_holds d)) := (ok_holds_grp T d)
theorem ok_inverse_of (T : Tx K mg a) : FnOk P w K mg base CX0 2 a.a_inverse_of a.d_inverse_of ["n", "number"] (spF K Z0 2 F_inverse_of) :=
  fn_ok (k := 1) T.f_inverse_of sc_inverse_of fun cdv A outer s H E hr => show Ess _ K Z0 (defBody s_inverse_of) b_inverse_of from
    (ess_cons (es_set (i := 2) sc_inverse_of.nd (ev_call ((ok_inverse T).mono (by omega)) hr T.m_inverse T.k_inverse T.b_inverse (ea_cons (ev_var 0) (ea_cons (ev_var 1) ea_nil)) (hlen := fun _ _ h => len_inverse h)))
    (ess_cons (es_if (et_cmp opIs (ev_var 2) ev_non (nomark _))
    (ess_one es_bad)
    ess_nil)
    (ess_one (es_ret (ev_var 2)))))
theorem ok_step_numbers (T : Tx K mg a) : FnOk P w K mg base CX0 3 a.a_step_numbers a.d_step_numbers ["n", "row"] (spF K Z0 2 F_step_numbers) :=
  fn_ok (k := 2) T.f_step_numbers sc_step_numbers fun cdv A outer s H E hr => show Ess _ K Z0 (defBody s_step_numbers) b_step_numbers from
    (ess_cons (es_set (i := 2) sc_step_numbers.nd (ev_lstR (ea_cons (ev_op opMod (ev_ix (ev_var 1) ev_int) (ev_var 0)) ea_nil)))
    (ess_cons (es_set (i := 3) sc_step_numbers.nd (ev_var 1))
    (ess_cons (es_set (i := 4) sc_step_numbers.nd ev_int)
    (ess_cons (es_for PassesOwn.never rfl (ei_range2 T.z_range ev_int (ev_callB callLen rfl T.z_len PySem.boot_len (ea_cons (ev_var 1) ea_nil))) (eg_name (i := 5) sc_step_numbers.nd)
    (ess_cons (es_comp (i := 3) sc_step_numbers.nd rfl (CompOk.of (N0 := ["n", "row", "told", "left", "over", "i"]) (sc0 := defScope s_step_numbers) (Nc := ["ahead", "later"]) (js := [none, none]) (by decide +kernel)) (ei_zip T.z_zip (ev_var 3) (ev_slice (ev_var 3) (eo_at ev_int) eo_no)) (fun _ _ _ _ _ _ => (eg_tup rfl (egs_cons (eg_name (i := 0) (show (["ahead", "later"] : List Str).Nodup by decide +kernel)) (egs_cons (eg_name (i := 1) (show (["ahead", "later"] : List Str).Nodup by decide +kernel)) egs_nil)))) (fun _ _ _ _ _ _ => eif_nil) (fun _ _ _ _ _ _ => (ev_op opSub (ev_var 1) (ev_var 0))))
    (ess_cons (es_set (i := 4) sc_step_numbers.nd (ev_op opMod (ev_op opMulA (ev_var 4) (ev_call ((ok_inverse_of T).mono (by omega)) hr T.m_inverse_of T.k_inverse_of T.b_inverse_of (ea_cons (ev_var 0) (ea_cons (ev_var 5) ea_nil)) (hlen := fun _ _ h => len_inverse_of h))) (ev_var 0)))
    (ess_one (es_expr (ev_append (ev_var 2) (ev_op opMod (ev_op opMulA (ev_ix (ev_var 3) ev_int) (ev_var 4)) (ev_var 0))))))))
    (ess_one (es_ret (ev_var 2)))))))
theorem ok_said_least (T : Tx K mg a) : FnOk P w K mg base CX0 4 a.a_said_least a.d_said_least ["n", "k", "parts"] (spF K Z0 3 F_said_least) :=
  fn_ok (k := 3) T.f_said_least sc_said_least fun cdv A outer s H E hr => show Ess _ K Z0 (defBody s_said_least) b_said_least from
    (ess_cons (es_set (i := 3) sc_said_least.nd (ev_callB callLen rfl T.z_len PySem.boot_len (ea_cons (ev_var 2) ea_nil)))
    (ess_cons (es_set (i := 4) sc_said_least.nd (ev_ix (ev_var 2) ev_int))
    (ess_cons (es_for PassesOwn.never rfl (ei_e (ev_slice (ev_var 2) (eo_at ev_int) eo_no)) (eg_name (i := 5) sc_said_least.nd)
    (ess_one (es_set (i := 4) sc_said_least.nd (ev_tup (ea_cons ev_str (ea_cons (ev_var 4) (ea_cons (ev_var 5) ea_nil)))))))
    (ess_cons (es_set (i := 6) sc_said_least.nd (ev_call ((ok_step_numbers T).mono (by omega)) hr T.m_step_numbers T.k_step_numbers T.b_step_numbers (ea_cons (ev_var 0) (ea_cons (ev_comp rfl (CompOk.of (N0 := ["n", "k", "parts", "many", "total", "part", "numbers", "told", "i"]) (sc0 := defScope s_said_least) (Nc := ["j", "k"]) (js := [none, some 1]) (by decide +kernel)) (ei_range1 T.z_range (ev_op opAdd (ev_var 3) ev_int)) (fun _ _ _ _ _ _ => (eg_name (i := 0) (show (["j", "k"] : List Str).Nodup by decide +kernel))) (fun _ _ _ _ _ _ => eif_nil) (fun _ _ _ _ _ _ => (ev_if (et_cmp opGe (ev_var 0) (ev_var 1) (nomark _)) ev_int ev_int))) ea_nil)) (hlen := fun _ _ h => len_step_numbers h)))
    (ess_cons (es_set (i := 7) sc_said_least.nd (ev_tup (ea_cons ev_str (ea_cons (ev_ix (ev_var 6) (ev_var 3)) ea_nil))))
    (ess_cons (es_for PassesOwn.never rfl (ei_down T.z_reversed T.z_range (ev_var 3)) (eg_name (i := 8) sc_said_least.nd)
    (ess_one (es_set (i := 7) sc_said_least.nd (ev_tup (ea_cons ev_str (ea_cons (ev_tup (ea_cons ev_str (ea_cons (ev_ix (ev_var 6) (ev_var 8)) ea_nil))) (ea_cons (ev_tup (ea_cons ev_str (ea_cons (ev_tup (ea_cons ev_str (ea_cons (ev_var 4) (ea_cons (ev_tup (ea_cons ev_str (ea_cons (ev_var 8) ea_nil))) ea_nil)))) (ea_cons (ev_var 7) ea_nil)))) ea_nil)))))))
    (ess_one (es_ret (ev_var 7)))))))))
theorem ok_said_grp (T : Tx K mg a) : ∀ d : Nat, FnOk P w K mg base CX0 (d + 4) a.a_said a.d_said ["n", "saying"] (spF K Z0 2 (F_said (d)))
  | 0 => fn_bad rfl
  | d + 1 => by
    have ih := ok_said_grp T d
    have ih_said := ih
    rw [show d + 1 + 4 = (d + 4) + 1 by omega]
    exact fn_ok (k := d + 4) T.f_said sc_said fun cdv A outer s H E hr => show Ess _ K Z0 (defBody s_said) (b_said (F_said d)) from
    (ess_cons (es_set (i := 2) sc_said.nd (ev_ix (ev_var 1) ev_int))
    (ess_cons (es_if (et_cmp (opEq (hu_room hr)) (ev_var 2) ev_str (nomark _))
    (ess_one (es_ret (ev_tup (ea_cons ev_str (ea_cons (ev_ix (ev_var 1) ev_int) ea_nil)))))
    ess_nil)
    (ess_cons (es_if (et_cmp (opEq (hu_room hr)) (ev_var 2) ev_str (nomark _))
    (ess_one (es_ret (ev_tup (ea_cons ev_str (ea_cons (ev_tup (ea_cons ev_str (ea_cons ev_int ea_nil))) (ea_cons (ev_call ih_said hr T.m_said T.k_said T.b_said (ea_cons (ev_var 0) (ea_cons (ev_ix (ev_var 1) ev_int) ea_nil)) (hlen := fun _ _ h => len_said h)) ea_nil))))))
    ess_nil)
    (ess_cons (es_if (et_cmp (opEq (hu_room hr)) (ev_var 2) ev_str (nomark _))
    (ess_one (es_ret (ev_call ((ok_said_least T).mono (by omega)) hr T.m_said_least T.k_said_least T.b_said_least (ea_cons (ev_var 0) (ea_cons (ev_ix (ev_var 1) ev_int) (ea_cons (ev_comp rfl (CompOk.of (N0 := ["n", "saying", "word", "one", "other"]) (sc0 := defScope s_said) (Nc := ["part", "n"]) (js := [none, some 0]) (by decide +kernel)) (ei_e (ev_ix (ev_var 1) ev_int)) (fun _ _ _ _ _ _ => (eg_name (i := 0) (show (["part", "n"] : List Str).Nodup by decide +kernel))) (fun _ _ _ _ _ _ => eif_nil) (fun _ _ _ _ _ _ => (ev_call ih_said hr T.m_said T.k_said T.b_said (ea_cons (ev_var 1) (ea_cons (ev_var 0) ea_nil)) (hlen := fun _ _ h => len_said h)))) ea_nil))) (hlen := fun _ _ h => len_said_least h))))
    ess_nil)
    (ess_cons (es_set (i := 3) sc_said.nd (ev_call ih_said hr T.m_said T.k_said T.b_said (ea_cons (ev_var 0) (ea_cons (ev_ix (ev_var 1) ev_int) ea_nil)) (hlen := fun _ _ h => len_said h)))
    (ess_cons (es_set (i := 4) sc_said.nd (ev_call ih_said hr T.m_said T.k_said T.b_said (ea_cons (ev_var 0) (ea_cons (ev_ix (ev_var 1) ev_int) ea_nil)) (hlen := fun _ _ h => len_said h)))
    (ess_cons (es_if (et_cmp (opEq (hu_room hr)) (ev_var 2) ev_str (nomark _))
    (ess_one (es_ret (ev_tup (ea_cons ev_str (ea_cons (ev_var 3) (ea_cons (ev_var 4) ea_nil))))))
    ess_nil)
    (ess_one (es_ret (ev_tup (ea_cons ev_str (ea_cons (ev_tup (ea_cons ev_str (ea_cons (ev_var 3) (ea_cons (ev_var 4) ea_nil)))) (ea_cons (ev_tup (ea_cons ev_str (ea_cons (ev_var 3) (ea_cons (ev_var 4) ea_nil)))) ea_nil)))))))))))))
theorem ok_said (d : Nat) (T : Tx K mg a) : FnOk P w K mg base CX0 (d + 4) a.a_said a.d_said ["n", "saying"] (spF K Z0 2 (F_said d)) := (ok_said_grp T d)
theorem ok_worth_grp (T : Tx K mg a) : ∀ d : Nat, FnOk P w K mg base CX0 (d + 0) a.a_worth a.d_worth ["n", "expr", "givens"] (spF K Z0 3 (F_worth (d)))
  | 0 => fn_bad rfl
  | d + 1 => by
    have ih := ok_worth_grp T d
    have ih_worth := ih
    rw [show d + 1 + 0 = (d + 0) + 1 by omega]
    exact fn_ok (k := d + 0) T.f_worth sc_worth fun cdv A outer s H E hr => show Ess _ K Z0 (defBody s_worth) (b_worth (F_worth d)) from
    (ess_cons (es_set (i := 3) sc_worth.nd (ev_ix (ev_var 1) ev_int))
    (ess_cons (es_if (et_cmp (opEq (hu_room hr)) (ev_var 3) ev_str (nomark _))
    (ess_one (es_ret (ev_op opMod (ev_ix (ev_var 1) ev_int) (ev_var 0))))
    ess_nil)
    (ess_cons (es_if (et_cmp (opEq (hu_room hr)) (ev_var 3) ev_str (nomark _))
    (ess_one (es_ret (ev_op opMod (ev_ix (ev_var 2) (ev_ix (ev_var 1) ev_int)) (ev_var 0))))
    ess_nil)
    (ess_cons (es_set (i := 4) sc_worth.nd (ev_call ih_worth hr T.m_worth T.k_worth T.b_worth (ea_cons (ev_var 0) (ea_cons (ev_ix (ev_var 1) ev_int) (ea_cons (ev_var 2) ea_nil))) (hlen := fun _ _ h => len_worth h)))
    (ess_cons (es_set (i := 5) sc_worth.nd (ev_call ih_worth hr T.m_worth T.k_worth T.b_worth (ea_cons (ev_var 0) (ea_cons (ev_ix (ev_var 1) ev_int) (ea_cons (ev_var 2) ea_nil))) (hlen := fun _ _ h => len_worth h)))
    (ess_cons (es_if (et_cmp (opEq (hu_room hr)) (ev_var 3) ev_str (nomark _))
    (ess_one (es_ret (ev_op opMod (ev_op opAdd (ev_var 4) (ev_var 5)) (ev_var 0))))
    ess_nil)
    (ess_cons (es_if (et_cmp (opEq (hu_room hr)) (ev_var 3) ev_str (nomark _))
    (ess_one (es_ret (ev_op opMod (ev_op opSub (ev_var 4) (ev_var 5)) (ev_var 0))))
    ess_nil)
    (ess_one (es_ret (ev_op opMod (ev_op opMulA (ev_var 4) (ev_var 5)) (ev_var 0)))))))))))
theorem ok_worth (d : Nat) (T : Tx K mg a) : FnOk P w K mg base CX0 (d + 0) a.a_worth a.d_worth ["n", "expr", "givens"] (spF K Z0 3 (F_worth d)) := (ok_worth_grp T d)
theorem ok_l_box (T : Tx K mg a) : FnOk P w K mg base CX0 1 a.a_l_box a.d_l_box ["_law_script", "_law_k"] (spF K Z0 2 F_l_box) :=
  fn_okR (k := 0) T.f_l_box sc_l_box fun cdv A outer s H E hr => show Ess _ K Z0 (defBody s_l_box) b_l_box from
    (ess_cons (es_set (i := 2) sc_l_box.nd (ev_op opAdd (ev_op opMulA ev_int (ev_var 1)) ev_int))
    (ess_cons (es_if (et_cmp opLt (ev_var 1) (ev_callB callLen rfl T.z_len PySem.boot_len (ea_cons (ev_var 0) ea_nil)) (nomark _))
    (ess_one (es_set (i := 2) sc_l_box.nd (ev_ix (ev_var 0) (ev_var 1))))
    (ess_one (es_if (et_cmp opGt (ev_callB callLen rfl T.z_len PySem.boot_len (ea_cons (ev_var 0) ea_nil)) ev_int (nomark _))
    (ess_one (es_set (i := 2) sc_l_box.nd (ev_op opAdd (ev_var 2) (ev_op opMulA (ev_op opMod (ev_ix (ev_var 0) (ev_op opMod (ev_var 1) (ev_callB callLen rfl T.z_len PySem.boot_len (ea_cons (ev_var 0) ea_nil)))) ev_int) ev_int))))
    ess_nil)))
    (ess_cons (es_set (i := 3) sc_l_box.nd (ev_op opAdd (ev_op opMod (ev_op opAdd (ev_op opMulA (ev_op opMod (ev_var 2) ev_int) ev_int) (ev_op opMulA ev_int (ev_var 1))) ev_int) ev_int))
    (ess_one (es_ret (ev_lstR (ea_cons (ev_ix (ev_lst (ea_cons ev_int (ea_cons (ev_var 2) ea_nil))) (ev_callT callInt rfl T.z_int bt_int (ea_cons (ev_cmp opGe (ev_var 2) (ev_op opPow ev_int ev_int) (nomark _)) ea_nil))) (ea_cons (ev_var 3) (ea_cons ev_int ea_nil)))))))))
theorem ok_l_take (T : Tx K mg a) : FnOk P w K mg base CX0 1 a.a_l_take a.d_l_take ["_law_box_here", "_law_many"] (spF K Z0 2 F_l_take) :=
  fn_ok (k := 0) T.f_l_take sc_l_take fun cdv A outer s H E hr => show Ess _ K Z0 (defBody s_l_take) b_l_take from
    (ess_cons (es_if (et_cmp opGt (ev_ix (ev_var 0) ev_int) ev_int (nomark _))
    (ess_cons (es_set (i := 2) sc_l_take.nd (ev_op opMod (ev_ix (ev_var 0) ev_int) (ev_var 1)))
    (ess_cons (es_asg (ev_op opDiv (ev_ix (ev_var 0) ev_int) (ev_var 1)) (eg_sub (ev_var 0) ev_int))
    (ess_one (es_ret (ev_var 2)))))
    ess_nil)
    (ess_cons (es_asg (ev_op opAdd (ev_ix (ev_var 0) ev_int) ev_int) (eg_sub (ev_var 0) ev_int))
    (ess_cons (es_set (i := 3) sc_l_take.nd (ev_op opMod (ev_op opMulA (ev_op opAdd (ev_ix (ev_var 0) ev_int) (ev_op opMulA ev_int (ev_ix (ev_var 0) ev_int))) ev_int) ev_int))
    (ess_cons (es_asg (ev_op opAdd (ev_op opMod (ev_op opAdd (ev_op opMulA (ev_var 3) ev_int) ev_int) ev_int) ev_int) (eg_sub (ev_var 0) ev_int))
    (ess_one (es_ret (ev_op opMod (ev_op opDiv (ev_op opAdd (ev_op opMulA (ev_var 3) ev_int) (ev_ix (ev_var 0) ev_int)) ev_int) (ev_var 1))))))))
theorem ok_l_n (T : Tx K mg a) : FnOk P w K mg base CX0 2 a.a_l_n a.d_l_n ["_law_box_here"] (spF K Z0 1 F_l_n) :=
  fn_ok (k := 1) T.f_l_n sc_l_n fun cdv A outer s H E hr => show Ess _ K Z0 (defBody s_l_n) b_l_n from
    (ess_cons (es_set (i := 1) sc_l_n.nd (ev_call ((ok_l_take T).mono (by omega)) hr T.m_l_take T.k_l_take T.b_l_take (ea_cons (ev_var 0) (ea_cons ev_int ea_nil)) (hlen := fun _ _ h => len_l_take h)))
    (ess_cons (es_set (i := 2) sc_l_n.nd (ev_ints (ns := [2, 3, 4, 5, 6, 7, 8, 9, 12, 16, 30, 36, 49, 64, 91, 97, 210, 1009, 65536, 999983, 999999, 1000000]) (by repeat constructor)))
    (ess_cons (es_set (i := 3) sc_l_n.nd (ev_ix (ev_var 2) (ev_call ((ok_l_take T).mono (by omega)) hr T.m_l_take T.k_l_take T.b_l_take (ea_cons (ev_var 0) (ea_cons ev_int ea_nil)) (hlen := fun _ _ h => len_l_take h))))
    (ess_cons (es_if (et_cmp (opEq (hu_room hr)) (ev_var 1) ev_int (nomark _))
    (ess_one (es_ret (ev_op opAdd ev_int (ev_call ((ok_l_take T).mono (by omega)) hr T.m_l_take T.k_l_take T.b_l_take (ea_cons (ev_var 0) (ea_cons ev_int ea_nil)) (hlen := fun _ _ h => len_l_take h)))))
    ess_nil)
    (ess_cons (es_if (et_cmp opLt (ev_var 1) ev_int (nomark _))
    (ess_one (es_ret (ev_op opAdd ev_int (ev_call ((ok_l_take T).mono (by omega)) hr T.m_l_take T.k_l_take T.b_l_take (ea_cons (ev_var 0) (ea_cons ev_int ea_nil)) (hlen := fun _ _ h => len_l_take h)))))
    ess_nil)
    (ess_one (es_ret (ev_var 3))))))))
theorem ok_l_worth_grp (T : Tx K mg a) : ∀ d : Nat, FnOk P w K mg base CX0 (d + 0) a.a_l_worth a.d_l_worth ["_law_n_here", "_law_expr", "_law_given"] (spF K Z0 3 (F_l_worth (d)))
  | 0 => fn_bad rfl
  | d + 1 => by
    have ih := ok_l_worth_grp T d
    have ih_l_worth := ih
    rw [show d + 1 + 0 = (d + 0) + 1 by omega]
    exact fn_ok (k := d + 0) T.f_l_worth sc_l_worth fun cdv A outer s H E hr => show Ess _ K Z0 (defBody s_l_worth) (b_l_worth (F_l_worth d)) from
    (ess_cons (es_if (et_cmp (opEq (hu_room hr)) (ev_ix (ev_var 1) ev_int) ev_str (nomark _))
    (ess_one (es_ret (ev_op opMod (ev_ix (ev_var 1) ev_int) (ev_var 0))))
    ess_nil)
    (ess_cons (es_if (et_cmp (opEq (hu_room hr)) (ev_ix (ev_var 1) ev_int) ev_str (nomark _))
    (ess_one (es_ret (ev_ix (ev_var 2) (ev_ix (ev_var 1) ev_int))))
    ess_nil)
    (ess_cons (es_par (i := 3) (j := 4) rfl sc_l_worth.nd (ea_cons (ev_call ih_l_worth hr T.m_l_worth T.k_l_worth T.b_l_worth (ea_cons (ev_var 0) (ea_cons (ev_ix (ev_var 1) ev_int) (ea_cons (ev_var 2) ea_nil))) (hlen := fun _ _ h => len_l_worth h)) (ea_cons (ev_call ih_l_worth hr T.m_l_worth T.k_l_worth T.b_l_worth (ea_cons (ev_var 0) (ea_cons (ev_ix (ev_var 1) ev_int) (ea_cons (ev_var 2) ea_nil))) (hlen := fun _ _ h => len_l_worth h)) ea_nil)))
    (ess_cons (es_if (et_cmp (opEq (hu_room hr)) (ev_ix (ev_var 1) ev_int) ev_str (nomark _))
    (ess_one (es_ret (ev_op opMod (ev_op opAdd (ev_var 3) (ev_var 4)) (ev_var 0))))
    ess_nil)
    (ess_cons (es_if (et_cmp (opEq (hu_room hr)) (ev_ix (ev_var 1) ev_int) ev_str (nomark _))
    (ess_one (es_ret (ev_op opMod (ev_op opSub (ev_var 3) (ev_var 4)) (ev_var 0))))
    ess_nil)
    (ess_one (es_ret (ev_op opMod (ev_op opMulA (ev_var 3) (ev_var 4)) (ev_var 0)))))))))
theorem ok_l_worth (d : Nat) (T : Tx K mg a) : FnOk P w K mg base CX0 (d + 0) a.a_l_worth a.d_l_worth ["_law_n_here", "_law_expr", "_law_given"] (spF K Z0 3 (F_l_worth d)) := (ok_l_worth_grp T d)
theorem ok_l_shared (T : Tx K mg a) : FnOk P w K mg base CX0 1 a.a_l_shared a.d_l_shared ["_law_one", "_law_other"] (spF K Z0 2 F_l_shared) :=
  fn_ok (k := 0) T.f_l_shared sc_l_shared fun cdv A outer s H E hr => show Ess _ K Z0 (defBody s_l_shared) b_l_shared from
    (ess_cons (es_while NW PassesOwn.never (et_cmp opGt (ev_var 1) ev_int (nomark _))
    (ess_one (es_par (i := 0) (j := 1) rfl sc_l_shared.nd (ea_cons (ev_var 1) (ea_cons (ev_op opMod (ev_var 0) (ev_var 1)) ea_nil)))))
    (ess_one (es_ret (ev_var 0))))
theorem ok_l_saying_grp (T : Tx K mg a) : ∀ d : Nat, FnOk P w K mg base CX0 (d + 1) a.a_l_saying a.d_l_saying ["_law_box_here", "_law_givens", "_law_room"] (spF K Z0 3 (F_l_saying (d)))
  | 0 => fn_bad rfl
  | d + 1 => by
    have ih := ok_l_saying_grp T d
    have ih_l_saying := ih
    rw [show d + 1 + 1 = (d + 1) + 1 by omega]
    exact fn_ok (k := d + 1) T.f_l_saying sc_l_saying fun cdv A outer s H E hr => show Ess _ K Z0 (defBody s_l_saying) (b_l_saying (F_l_saying d)) from
    (ess_cons (es_set (i := 3) sc_l_saying.nd (ev_call ((ok_l_take T).mono (by omega)) hr T.m_l_take T.k_l_take T.b_l_take (ea_cons (ev_var 0) (ea_cons ev_int ea_nil)) (hlen := fun _ _ h => len_l_take h)))
    (ess_cons (es_if (et_w (ew_or (et_cmp opLt (ev_var 2) ev_int (nomark _)) (ew_or1 (et_cmp (opEq (hu_room hr)) (ev_var 3) ev_int (nomark _)))))
    (ess_one (es_ret (ev_tup (ea_cons ev_str (ea_cons (ev_call ((ok_l_take T).mono (by omega)) hr T.m_l_take T.k_l_take T.b_l_take (ea_cons (ev_var 0) (ea_cons (ev_var 1) ea_nil)) (hlen := fun _ _ h => len_l_take h)) ea_nil)))))
    ess_nil)
    (ess_cons (es_if (et_cmp (opEq (hu_room hr)) (ev_var 3) ev_int (nomark _))
    (ess_one (es_ret (ev_tup (ea_cons ev_str (ea_cons (ev_call ih_l_saying hr T.m_l_saying T.k_l_saying T.b_l_saying (ea_cons (ev_var 0) (ea_cons (ev_var 1) (ea_cons (ev_op opSub (ev_var 2) ev_int) ea_nil))) (hlen := fun _ _ h => len_l_saying h)) ea_nil)))))
    ess_nil)
    (ess_cons (es_if (et_w (ew_or (et_cmp opLt (ev_var 2) ev_int (nomark _)) (ew_or1 (et_cmp opLt (ev_var 3) ev_int (nomark _)))))
    (ess_cons (es_set (i := 4) sc_l_saying.nd (ev_op opAdd ev_int (ev_call ((ok_l_take T).mono (by omega)) hr T.m_l_take T.k_l_take T.b_l_take (ea_cons (ev_var 0) (ea_cons (ev_callB (callMin2 rfl) rfl T.z_min bt_min (ea_cons ev_int (ea_cons (ev_op opSub (ev_var 2) ev_int) ea_nil))) ea_nil)) (hlen := fun _ _ h => len_l_take h))))
    (ess_cons (es_par (i := 5) (j := 6) rfl sc_l_saying.nd (ea_cons (ev_lstR ea_nil) (ea_cons (ev_op opSub (ev_var 2) ev_int) ea_nil)))
    (ess_cons (es_for PassesOwn.never rfl (ei_range1 T.z_range (ev_var 4)) (eg_name (i := 7) sc_l_saying.nd)
    (ess_cons (es_set (i := 8) sc_l_saying.nd (ev_op opAdd ev_int (ev_call ((ok_l_take T).mono (by omega)) hr T.m_l_take T.k_l_take T.b_l_take (ea_cons (ev_var 0) (ea_cons (ev_op opSub (ev_var 6) (ev_op opSub (ev_op opSub (ev_var 4) ev_int) (ev_var 7))) ea_nil)) (hlen := fun _ _ h => len_l_take h))))
    (ess_cons (es_expr (ev_append (ev_var 5) (ev_call ih_l_saying hr T.m_l_saying T.k_l_saying T.b_l_saying (ea_cons (ev_var 0) (ea_cons (ev_var 1) (ea_cons (ev_var 8) ea_nil))) (hlen := fun _ _ h => len_l_saying h))))
    (ess_one (es_set (i := 6) sc_l_saying.nd (ev_op opSub (ev_var 6) (ev_var 8)))))))
    (ess_one (es_ret (ev_tup (ea_cons ev_str (ea_cons (ev_call ((ok_l_take T).mono (by omega)) hr T.m_l_take T.k_l_take T.b_l_take (ea_cons (ev_var 0) (ea_cons ev_int ea_nil)) (hlen := fun _ _ h => len_l_take h)) (ea_cons (ev_callT callTup rfl T.z_tuple bt_tuple (ea_cons (ev_var 5) ea_nil)) ea_nil)))))))))
    ess_nil)
    (ess_cons (es_set (i := 8) sc_l_saying.nd (ev_op opAdd ev_int (ev_call ((ok_l_take T).mono (by omega)) hr T.m_l_take T.k_l_take T.b_l_take (ea_cons (ev_var 0) (ea_cons (ev_op opSub (ev_var 2) ev_int) ea_nil)) (hlen := fun _ _ h => len_l_take h))))
    (ess_cons (es_set (i := 9) sc_l_saying.nd (ev_call ih_l_saying hr T.m_l_saying T.k_l_saying T.b_l_saying (ea_cons (ev_var 0) (ea_cons (ev_var 1) (ea_cons (ev_var 8) ea_nil))) (hlen := fun _ _ h => len_l_saying h)))
    (ess_one (es_ret (ev_tup (ea_cons (ev_ix (ev_lst (ea_cons ev_str (ea_cons ev_str ea_nil))) (ev_op opSub (ev_var 3) ev_int)) (ea_cons (ev_var 9) (ea_cons (ev_call ih_l_saying hr T.m_l_saying T.k_l_saying T.b_l_saying (ea_cons (ev_var 0) (ea_cons (ev_var 1) (ea_cons (ev_op opSub (ev_op opSub (ev_var 2) ev_int) (ev_var 8)) ea_nil))) (hlen := fun _ _ h => len_l_saying h)) ea_nil))))))))))))
theorem ok_l_saying (d : Nat) (T : Tx K mg a) : FnOk P w K mg base CX0 (d + 1) a.a_l_saying a.d_l_saying ["_law_box_here", "_law_givens", "_law_room"] (spF K Z0 3 (F_l_saying d)) := (ok_l_saying_grp T d)
theorem ok_l_holds_grp (T : Tx K mg a) : ∀ d : Nat, FnOk P w K mg base CX0 (d + 0) a.a_l_holds a.d_l_holds ["_law_saying_here", "_law_answers"] (spF K Z0 2 (F_l_holds (d)))
  | 0 => fn_bad rfl
  | d + 1 => by
    have ih := ok_l_holds_grp T d
    have ih_l_holds := ih
    rw [show d + 1 + 0 = (d + 0) + 1 by omega]
    exact fn_ok (k := d + 0) T.f_l_holds sc_l_holds fun cdv A outer s H E hr => show Ess _ K Z0 (defBody s_l_holds) (b_l_holds (F_l_holds d)) from
    (ess_cons (es_set (i := 2) sc_l_holds.nd (ev_ix (ev_var 0) ev_int))
    (ess_cons (es_if (et_cmp (opEq (hu_room hr)) (ev_var 2) ev_str (nomark _))
    (ess_one (es_ret (ev_cmp (opEq (hu_room hr)) (ev_ix (ev_var 1) (ev_ix (ev_var 0) ev_int)) ev_int (nomark _))))
    ess_nil)
    (ess_cons (es_if (et_cmp (opEq (hu_room hr)) (ev_var 2) ev_str (nomark _))
    (ess_one (es_ret (ev_not (ev_call ih_l_holds hr T.m_l_holds T.k_l_holds T.b_l_holds (ea_cons (ev_ix (ev_var 0) ev_int) (ea_cons (ev_var 1) ea_nil)) (hlen := fun _ _ h => len_l_holds h)))))
    ess_nil)
    (ess_cons (es_if (et_cmp (opEq (hu_room hr)) (ev_var 2) ev_str (nomark _))
    (ess_one (es_ret (ev_cmp opGe (ev_callB callLen rfl T.z_len PySem.boot_len (ea_cons (ev_comp rfl (CompOk.of (N0 := ["_law_saying_here", "_law_answers", "_law_word", "_law_both"]) (sc0 := defScope s_l_holds) (Nc := ["_law_one", "_law_answers"]) (js := [none, some 1]) (by decide +kernel)) (ei_e (ev_ix (ev_var 0) ev_int)) (fun _ _ _ _ _ _ => (eg_name (i := 0) (show (["_law_one", "_law_answers"] : List Str).Nodup by decide +kernel))) (fun _ _ _ _ _ _ => (eif_one (et_val (ev_call ih_l_holds hr T.m_l_holds T.k_l_holds T.b_l_holds (ea_cons (ev_var 0) (ea_cons (ev_var 1) ea_nil)) (hlen := fun _ _ h => len_l_holds h))))) (fun _ _ _ _ _ _ => (ev_var 0))) ea_nil)) (ev_ix (ev_var 0) ev_int) (nomark _))))
    ess_nil)
    (ess_cons (es_set (i := 3) sc_l_holds.nd (ev_lst (ea_cons (ev_call ih_l_holds hr T.m_l_holds T.k_l_holds T.b_l_holds (ea_cons (ev_ix (ev_var 0) ev_int) (ea_cons (ev_var 1) ea_nil)) (hlen := fun _ _ h => len_l_holds h)) (ea_cons (ev_call ih_l_holds hr T.m_l_holds T.k_l_holds T.b_l_holds (ea_cons (ev_ix (ev_var 0) ev_int) (ea_cons (ev_var 1) ea_nil)) (hlen := fun _ _ h => len_l_holds h)) ea_nil))))
    (ess_one (es_ret (ev_ix (ev_lst (ea_cons (ev_or (ev_ix (ev_var 3) ev_int) (ev_one (ev_ix (ev_var 3) ev_int))) (ea_cons (ev_and (ev_ix (ev_var 3) ev_int) (ev_one (ev_ix (ev_var 3) ev_int))) ea_nil))) (ev_callT callInt rfl T.z_int bt_int (ea_cons (ev_cmp (opEq (hu_room hr)) (ev_var 2) ev_str (nomark _)) ea_nil))))))))))
theorem ok_l_holds (d : Nat) (T : Tx K mg a) : FnOk P w K mg base CX0 (d + 0) a.a_l_holds a.d_l_holds ["_law_saying_here", "_law_answers"] (spF K Z0 2 (F_l_holds d)) := (ok_l_holds_grp T d)
theorem ok_l_most_grp (T : Tx K mg a) : ∀ d : Nat, FnOk P w K mg base CX0 (d + 0) a.a_l_most a.d_l_most ["_law_saying_here"] (spF K Z0 1 (F_l_most (d)))
  | 0 => fn_bad rfl
  | d + 1 => by
    have ih := ok_l_most_grp T d
    have ih_l_most := ih
    rw [show d + 1 + 0 = (d + 0) + 1 by omega]
    exact fn_ok (k := d + 0) T.f_l_most sc_l_most fun cdv A outer s H E hr => show Ess _ K Z0 (defBody s_l_most) (b_l_most (F_l_most d)) from
    (ess_cons (es_if (et_cmp (opEq (hu_room hr)) (ev_ix (ev_var 0) ev_int) ev_str (nomark _))
    (ess_one (es_ret ev_int))
    ess_nil)
    (ess_cons (es_if (et_cmp (opEq (hu_room hr)) (ev_ix (ev_var 0) ev_int) ev_str (nomark _))
    (ess_one (es_ret (ev_callB (callMaxL rfl) rfl T.z_max bt_max (ea_cons (ev_op opAdd (ev_lst (ea_cons (ev_callB callLen rfl T.z_len PySem.boot_len (ea_cons (ev_ix (ev_var 0) ev_int) ea_nil)) ea_nil)) (ev_comp rfl (CompOk.of (N0 := ["_law_saying_here"]) (sc0 := defScope s_l_most) (Nc := ["_law_one"]) (js := [none]) (by decide +kernel)) (ei_e (ev_ix (ev_var 0) ev_int)) (fun _ _ _ _ _ _ => (eg_name (i := 0) (show (["_law_one"] : List Str).Nodup by decide +kernel))) (fun _ _ _ _ _ _ => eif_nil) (fun _ _ _ _ _ _ => (ev_call ih_l_most hr T.m_l_most T.k_l_most T.b_l_most (ea_cons (ev_var 0) ea_nil) (hlen := fun _ _ h => len_l_most h))))) ea_nil))))
    ess_nil)
    (ess_one (es_ret (ev_callB (callMaxL rfl) rfl T.z_max bt_max (ea_cons (ev_comp rfl (CompOk.of (N0 := ["_law_saying_here"]) (sc0 := defScope s_l_most) (Nc := ["_law_one"]) (js := [none]) (by decide +kernel)) (ei_e (ev_slice (ev_var 0) (eo_at ev_int) eo_no)) (fun _ _ _ _ _ _ => (eg_name (i := 0) (show (["_law_one"] : List Str).Nodup by decide +kernel))) (fun _ _ _ _ _ _ => eif_nil) (fun _ _ _ _ _ _ => (ev_call ih_l_most hr T.m_l_most T.k_l_most T.b_l_most (ea_cons (ev_var 0) ea_nil) (hlen := fun _ _ h => len_l_most h)))) ea_nil))))))
theorem ok_l_most (d : Nat) (T : Tx K mg a) : FnOk P w K mg base CX0 (d + 0) a.a_l_most a.d_l_most ["_law_saying_here"] (spF K Z0 1 (F_l_most d)) := (ok_l_most_grp T d)
theorem ok_l_all (T : Tx K mg a) : FnOk P w K mg base CX0 1 a.a_l_all a.d_l_all ["_law_many"] (spF K Z0 1 F_l_all) :=
  fn_ok (k := 0) T.f_l_all sc_l_all fun cdv A outer s H E hr => show Ess _ K Z0 (defBody s_l_all) b_l_all from
    (ess_cons (es_set (i := 1) sc_l_all.nd (ev_lst (ea_cons (ev_tup ea_nil) ea_nil)))
    (ess_cons (es_for PassesOwn.never rfl (ei_range1 T.z_range (ev_var 0)) (eg_name (i := 2) sc_l_all.nd)
    (ess_one (es_set (i := 1) sc_l_all.nd (ev_op opAdd (ev_comp rfl (CompOk.of (N0 := ["_law_many", "_law_found", "_law_k"]) (sc0 := defScope s_l_all) (Nc := ["_law_one"]) (js := [none]) (by decide +kernel)) (ei_e (ev_var 1)) (fun _ _ _ _ _ _ => (eg_name (i := 0) (show (["_law_one"] : List Str).Nodup by decide +kernel))) (fun _ _ _ _ _ _ => eif_nil) (fun _ _ _ _ _ _ => (ev_op opAdd (ev_var 0) (ev_tup (ea_cons ev_int ea_nil))))) (ev_comp rfl (CompOk.of (N0 := ["_law_many", "_law_found", "_law_k"]) (sc0 := defScope s_l_all) (Nc := ["_law_one"]) (js := [none]) (by decide +kernel)) (ei_e (ev_var 1)) (fun _ _ _ _ _ _ => (eg_name (i := 0) (show (["_law_one"] : List Str).Nodup by decide +kernel))) (fun _ _ _ _ _ _ => eif_nil) (fun _ _ _ _ _ _ => (ev_op opAdd (ev_var 0) (ev_tup (ea_cons ev_int ea_nil)))))))))
    (ess_one (es_ret (ev_var 1)))))
theorem ok_law (T : Tx K mg a) : FnOk P w K mg base CX0 205 a.a_law a.d_law ["_law_script"] (spF K Z0 1 F_law) :=
  fn_ok (k := 204) T.f_law sc_law fun cdv A outer s H E hr => show Ess _ K Z0 (defBody s_law) b_law from
    (ess_cons (es_set (i := 1) sc_law.nd (ev_call ((ok_l_box T).mono (by omega)) hr T.m_l_box T.k_l_box T.b_l_box (ea_cons (ev_var 0) (ea_cons ev_int ea_nil)) (hlen := fun _ _ h => len_l_box h)))
    (ess_cons (es_set (i := 2) sc_law.nd (ev_op opAdd ev_int (ev_call ((ok_l_take T).mono (by omega)) hr T.m_l_take T.k_l_take T.b_l_take (ea_cons (ev_var 1) (ea_cons ev_int ea_nil)) (hlen := fun _ _ h => len_l_take h))))
    (ess_cons (es_set (i := 3) sc_law.nd (ev_call ((ok_l_saying 200 T).mono (by omega)) hr T.m_l_saying T.k_l_saying T.b_l_saying (ea_cons (ev_var 1) (ea_cons (ev_var 2) (ea_cons (ev_ix (ev_lst (ea_cons ev_int (ea_cons ev_int (ea_cons ev_int ea_nil)))) (ev_call ((ok_l_take T).mono (by omega)) hr T.m_l_take T.k_l_take T.b_l_take (ea_cons (ev_var 1) (ea_cons ev_int ea_nil)) (hlen := fun _ _ h => len_l_take h))) ea_nil))) (hlen := fun _ _ h => len_l_saying h)))
    (ess_cons (es_if (et_cmp (opEq (hu_room hr)) (ev_call ((ok_l_take T).mono (by omega)) hr T.m_l_take T.k_l_take T.b_l_take (ea_cons (ev_var 1) (ea_cons ev_int ea_nil)) (hlen := fun _ _ h => len_l_take h)) ev_int (nomark _))
    (ess_cons (es_set (i := 4) sc_law.nd (ev_callT callTup rfl T.z_tuple bt_tuple (ea_cons (ev_comp rfl (CompOk.of (N0 := ["_law_script", "_law_box_here", "_law_givens", "_law_saying_here", "_law_parts", "_law_n_here", "_law_expr", "_law_answers", "_law_due"]) (sc0 := defScope s_law) (Nc := ["_law_k", "_law_givens", "_law_script"]) (js := [none, some 2, some 0]) (by decide +kernel)) (ei_range1 T.z_range ev_int) (fun _ _ _ _ _ _ => (eg_name (i := 0) (show (["_law_k", "_law_givens", "_law_script"] : List Str).Nodup by decide +kernel))) (fun _ _ _ _ _ _ => eif_nil) (fun _ _ _ _ _ _ => (ev_trim (ev_call ((ok_l_saying 200 T).mono (by omega)) hr T.m_l_saying T.k_l_saying T.b_l_saying (ea_cons (ev_call ((ok_l_box T).mono (by omega)) hr T.m_l_box T.k_l_box T.b_l_box (ea_cons (ev_var 2) (ea_cons (ev_op opAdd ev_int (ev_var 0)) ea_nil)) (hlen := fun _ _ h => len_l_box h)) (ea_cons (ev_var 1) (ea_cons ev_int ea_nil))) (hlen := fun _ _ h => len_l_saying h))))) ea_nil)))
    (ess_one (es_set (i := 3) sc_law.nd (ev_tup (ea_cons ev_str (ea_cons (ev_call ((ok_l_take T).mono (by omega)) hr T.m_l_take T.k_l_take T.b_l_take (ea_cons (ev_var 1) (ea_cons ev_int ea_nil)) (hlen := fun _ _ h => len_l_take h)) (ea_cons (ev_var 4) ea_nil)))))))
    ess_nil)
    (ess_cons (es_set (i := 5) sc_law.nd (ev_callB (callMin2 rfl) rfl T.z_min bt_min (ea_cons (ev_call ((ok_l_n T).mono (by omega)) hr T.m_l_n T.k_l_n T.b_l_n (ea_cons (ev_call ((ok_l_box T).mono (by omega)) hr T.m_l_box T.k_l_box T.b_l_box (ea_cons (ev_var 0) (ea_cons ev_int ea_nil)) (hlen := fun _ _ h => len_l_box h)) ea_nil) (hlen := fun _ _ h => len_l_n h)) (ea_cons ev_int ea_nil))))
    (ess_cons (es_while NW PassesOwn.never (et_val (ev_callB (callAny rfl) rfl T.z_any bt_any (ea_cons (ev_comp rfl (CompOk.of (N0 := ["_law_script", "_law_box_here", "_law_givens", "_law_saying_here", "_law_parts", "_law_n_here", "_law_expr", "_law_answers", "_law_due"]) (sc0 := defScope s_law) (Nc := ["_law_number", "_law_n_here"]) (js := [none, some 5]) (by decide +kernel)) (ei_range2 T.z_range ev_int (ev_op opAdd (ev_call ((ok_l_most 200 T).mono (by omega)) hr T.m_l_most T.k_l_most T.b_l_most (ea_cons (ev_var 3) ea_nil) (hlen := fun _ _ h => len_l_most h)) ev_int)) (fun _ _ _ _ _ _ => (eg_name (i := 0) (show (["_law_number", "_law_n_here"] : List Str).Nodup by decide +kernel))) (fun _ _ _ _ _ _ => eif_nil) (fun _ _ _ _ _ _ => (ev_cmp (opNe (hu_room hr)) (ev_call ((ok_l_shared T).mono (by omega)) hr T.m_l_shared T.k_l_shared T.b_l_shared (ea_cons (ev_var 1) (ea_cons (ev_var 0) ea_nil)) (hlen := fun _ _ h => len_l_shared h)) ev_int (nomark _)))) ea_nil)))
    (ess_one (es_set (i := 5) sc_law.nd (ev_op opAdd (ev_var 5) ev_int))))
    (ess_cons (es_set (i := 6) sc_law.nd (ev_call ((ok_said 200 T).mono (by omega)) hr T.m_said T.k_said T.b_said (ea_cons (ev_var 5) (ea_cons (ev_var 3) ea_nil)) (hlen := fun _ _ h => len_said h)))
    (ess_cons (es_for PassesOwn.never rfl (ei_e (ev_call ((ok_l_all T).mono (by omega)) hr T.m_l_all T.k_l_all T.b_l_all (ea_cons (ev_var 2) ea_nil) (hlen := fun _ _ h => len_l_all h))) (eg_name (i := 7) sc_law.nd)
    (ess_cons (es_set (i := 8) sc_law.nd (ev_callT callInt rfl T.z_int bt_int (ea_cons (ev_call ((ok_l_holds 200 T).mono (by omega)) hr T.m_l_holds T.k_l_holds T.b_l_holds (ea_cons (ev_var 3) (ea_cons (ev_var 7) ea_nil)) (hlen := fun _ _ h => len_l_holds h)) ea_nil)))
    (ess_cons (es_if (et_w (ew_or (et_cmp (opNe (hu_room hr)) (ev_call ((ok_l_worth 200 T).mono (by omega)) hr T.m_l_worth T.k_l_worth T.b_l_worth (ea_cons (ev_var 5) (ea_cons (ev_var 6) (ea_cons (ev_var 7) ea_nil))) (hlen := fun _ _ h => len_l_worth h)) (ev_var 8) (nomark _)) (ew_or1 (et_cmp (opNe (hu_room hr)) (ev_call ((ok_worth 200 T).mono (by omega)) hr T.m_worth T.k_worth T.b_worth (ea_cons (ev_var 5) (ea_cons (ev_var 6) (ea_cons (ev_var 7) ea_nil))) (hlen := fun _ _ h => len_worth h)) (ev_var 8) (nomark _)))))
    (ess_one (es_ret ev_bl))
    ess_nil)
    (ess_one (es_if (et_cmp (opNe (hu_room hr)) (ev_call ((ok_holds 200 T).mono (by omega)) hr T.m_holds T.k_holds T.b_holds (ea_cons (ev_var 3) (ea_cons (ev_var 7) ea_nil)) (hlen := fun _ _ h => len_holds h)) (ev_cmp (opEq (hu_room hr)) (ev_var 8) ev_int (nomark _)) (nomark _))
    (ess_one (es_ret ev_bl))
    ess_nil)))))
    (ess_one (es_ret (ev_cmp (opEq (hu_room hr)) (ev_call ((ok_said 200 T).mono (by omega)) hr T.m_said T.k_said T.b_said (ea_cons (ev_var 5) (ea_cons (ev_var 3) ea_nil)) (hlen := fun _ _ h => len_said h)) (ev_var 6) (nomark _))))))))))))
end
end K37

set_option Elab.async false
set_option linter.all false
set_option maxRecDepth 100000
set_option maxHeartbeats 4000000

namespace K37
open PySem L2 EV LS
local macro_rules | `(tactic| decreasing_trivial_pre_omega) => `(tactic| with_reducible first
  | refine ok_seq ?_ | refine ok_sAs ?_ | refine ok_gN ?_ | refine ok_e2 ?_ | refine ok_V (by with_unfolding_all exact rfl) ?_ | refine ok_C ?_ | refine ok_A ?_ | refine ok_aC ?_ | refine ok_aN ?_ | refine ok_tB ?_ | refine ok_sIf ?_ | refine ok_rt ?_ | refine ok_nil ?_ | refine ok_ex ?_ | refine ok_e1 ?_
  | refine ok_add ?_ | refine ok_ltA ?_ | refine ok_eqI ?_ | refine ok_neI ?_ | (refine ok_pI ?hz ?_; case hz => (with_unfolding_all first | exact rfl | decide | ((try simp only [decide_eq_true_eq, true_and, and_true, List.length_map, List.length_cons, List.length_nil, List.length_append, List.length_replicate]) <;> omega))) | (refine ok_mul ?hz ?_; case hz => (with_unfolding_all first | decide | ((try simp only [mulOk, decide_eq_true_eq, List.length_map, List.length_cons, List.length_nil, List.length_append, List.length_replicate]) <;> omega))) | refine ok_eqS ?_ | refine ok_neS ?_ | refine ok_eqB ?_ | refine ok_neB ?_ | refine ok_is ?_ | refine ok_isnot ?_ | refine ok_neg ?_ | refine ok_not ?_
  | refine ok_ixT (by with_unfolding_all exact rfl) ?_ | refine ok_ixL (by with_unfolding_all exact rfl) ?_ | refine ok_ixF (by with_unfolding_all exact rfl) ?_ | refine ok_ixR (by assumption) (by with_unfolding_all exact rfl) ?_ | refine ok_ixR (List.getElem?_set_self (by simpa only [List.length_set])) (by with_unfolding_all exact rfl) ?_
  | refine ok_tNot ?_ | refine ok_tAnd ?_ | refine ok_tOr ?_ | refine ok_tV ?_ | refine ok_tYes ?_ | refine ok_If ?_ | refine ok_And ?_ | refine ok_Or ?_
  | refine ok_mkT (by with_unfolding_all exact rfl) (by with_unfolding_all simp) ?_ | refine ok_mkL (by with_unfolding_all exact rfl) (by with_unfolding_all simp) ?_ | refine ok_mkR (by with_unfolding_all exact rfl) (by with_unfolding_all simp) ?_ | refine ok_ints ?_
  | refine ok_lenT ?_ | refine ok_lenL ?_ | refine ok_lenF ?_ | refine ok_lenR (by assumption) ?_ | refine ok_intB ?_ | refine ok_intI ?_ | refine ok_max ?_ | refine ok_min ?_
  | refine ok_M1 ?_ | refine ok_Sl ?_ | refine ok_SlR ?_ | refine ok_oNo ?_ | refine ok_oAt ?_ | refine ok_slT ?_ | refine ok_for ?_ | refine ok_iR1 ?_ | refine ok_iR2 ?_ | refine ok_iE (s := ⟨[], none⟩) ?_ | refine ok_iRv ?_ | refine ok_iZip ?_ | refine ok_iDown ?_ | refine ok_iEnum ?_ | refine ok_augS ?_ | refine ok_pick ?_ | refine ok_trim ?_ | refine ok_forW ?_ | refine ok_sPar ?_ | refine ok_par3 ?_ | refine ok_gS ?_ | refine ok_gsC ?_ | refine ok_gsN ?_ | refine ok_bk ?_ | refine ok_ct ?_
  | refine ok_isi (by with_unfolding_all exact rfl) ?_ | refine ok_retD ?_ | refine ok_gT (by with_unfolding_all exact rfl) ?_ | refine ok_gTL (by with_unfolding_all exact rfl) ?_ | refine ⟨_, rfl, ?_⟩ | refine ⟨_, _, _, _, rfl, rfl, by assumption, by with_unfolding_all exact rfl, ?_⟩ | refine ⟨_, _, _, _, rfl, rfl, List.getElem?_set_self (by simpa only [List.length_set]), by with_unfolding_all exact rfl, ?_⟩
  | refine ok_ifT (by with_unfolding_all decide) ?_ | refine ok_ifF (by with_unfolding_all decide) ?_ | refine ⟨fun h => absurd h (by with_unfolding_all decide), fun _ => ?_⟩ | refine ⟨fun _ => ?_, fun h => absurd h (by with_unfolding_all decide)⟩ | refine ⟨_, _, rfl, ?_⟩ | refine ⟨_, _, _, rfl, ?_⟩)
/-! ### the draws -/
theorem take_spec {M : Mm} {b : Nat} {m : Int} (h : Bx M b) (h0 : 0 < m) (h1 : m < 18446744073709551616) : Ok (F_l_take [.ref b, .d (.int m)] M) fun w M' => ∃ d : Int, w = .d (.int d) ∧ 0 ≤ d ∧ d < m ∧ Nx b M M' := by
  have hb := h.lt
  obtain ⟨x, y, z, e⟩ := h
  refine ok_fn rfl ?_
  unfold b_l_take
  repeat decreasing_trivial_pre_omega
  refine ok_ifd (fun hx => ?_) (fun hx => ?_)
  · repeat decreasing_trivial_pre_omega
    refine ⟨Int.emod_nonneg _ (by omega), Int.emod_lt_of_pos _ h0, x / m, y, z, ?_⟩
    rw [List.take_of_length_le (by simp)]; rfl
  · repeat decreasing_trivial_pre_omega
    refine ⟨Int.emod_nonneg _ (by omega), Int.emod_lt_of_pos _ h0, ?_⟩
    rw [List.take_of_length_le (by simp)]
    exact ⟨_, _, _, by rw [List.set_set]; rfl⟩
theorem box_spec {M : Mm} {ns : List Int} {k : Int} (h0 : 0 ≤ k) (hl : ns.length ≤ 63) : Ok (F_l_box [.d (.fz (ns.map D.int)), .d (.int k)] M) fun w M' => ∃ x y z, w = .ref M.length ∧ M' = M ++ [[.int x, .int y, .int z]] := by
  refine ok_fnR rfl ?_
  have at_ : ∀ i : Int, 0 ≤ i → i < (ns.length : Int) → ∃ n, atI (ns.map D.int) i = some (.int n) := fun i a b => by
    have hi : i.toNat < ns.length := by omega
    refine ⟨ns[i.toNat], ?_⟩
    simp only [atI, ixN, List.length_map]
    rw [if_pos a, if_pos b]
    simp [hi]
  unfold b_l_box
  repeat decreasing_trivial_pre_omega
  refine ok_ifd (fun hx => ?_) (fun hx => ?_)
  · rw [List.length_map] at hx
    obtain ⟨n, e⟩ := at_ k h0 hx
    repeat decreasing_trivial_pre_omega
    refine ok_ixF e ?_
    repeat decreasing_trivial_pre_omega
    refine ok_ixL (atBox _) ?_
    repeat decreasing_trivial_pre_omega
    exact ⟨M.length, [.int _, .int _, .int _], rfl, Nat.le_refl _, List.getElem?_concat_length, _, _, _, rfl, by rw [List.take_left]⟩
  · repeat decreasing_trivial_pre_omega
    refine ok_ifd (fun hy => ?_) (fun hy => ?_)
    · rw [List.length_map] at hy
      obtain ⟨n, e⟩ := at_ (k % ns.length) (Int.emod_nonneg _ (by omega)) (Int.emod_lt_of_pos _ hy)
      repeat decreasing_trivial_pre_omega
      rw [List.length_map]
      refine ok_ixF e ?_
      repeat decreasing_trivial_pre_omega
      refine ok_ixL (atBox _) ?_
      repeat decreasing_trivial_pre_omega
      exact ⟨M.length, [.int _, .int _, .int _], rfl, Nat.le_refl _, List.getElem?_concat_length, _, _, _, rfl, by rw [List.take_left]⟩
    · repeat decreasing_trivial_pre_omega
      refine ok_ixL (atBox _) ?_
      repeat decreasing_trivial_pre_omega
      exact ⟨M.length, [.int _, .int _, .int _], rfl, Nat.le_refl _, List.getElem?_concat_length, _, _, _, rfl, by rw [List.take_left]⟩

theorem n_spec {M : Mm} {b : Nat} (hb : Bx M b) : Ok (F_l_n [.ref b] M) fun w M' => ∃ n : Int, w = .d (.int n) ∧ 2 ≤ n ∧ n ≤ 1000000 ∧ Nx b M M' := by
  have n := Nx.refl hb
  unfold F_l_n
  refine ok_fn rfl ?_
  unfold b_l_n
  repeat decreasing_trivial_pre_omega
  (refine (take_spec hb (by omega) (by omega)).mono ?_; rintro _ _ ⟨d1, rfl, l_d1, u_d1, n'⟩; replace n := n.trans n'; replace hb := n'.bx hb; clear n')
  repeat decreasing_trivial_pre_omega
  (refine (take_spec hb (by omega) (by omega)).mono ?_; rintro _ _ ⟨d2, rfl, l_d2, u_d2, n'⟩; replace n := n.trans n'; replace hb := n'.bx hb; clear n')
  obtain ⟨v, ev, mv⟩ := atInts (ns := [2, 3, 4, 5, 6, 7, 8, 9, 12, 16, 30, 36, 49, 64, 91, 97, 210, 1009, 65536, 999983, 999999, 1000000]) l_d2 (by simpa using u_d2)
  have hv : ∀ x ∈ [2, 3, 4, 5, 6, 7, 8, 9, 12, 16, 30, 36, 49, 64, 91, 97, 210, 1009, 65536, 999983, 999999, (1000000 : Int)], 2 ≤ x ∧ x ≤ 1000000 := by decide
  refine ok_ixL ev ?_
  repeat decreasing_trivial_pre_omega
  refine ok_ifd (fun _ => ?_) (fun _ => ?_)
  · repeat decreasing_trivial_pre_omega
    (refine (take_spec hb (by omega) (by omega)).mono ?_; rintro _ _ ⟨d3, rfl, l_d3, u_d3, n'⟩; replace n := n.trans n'; replace hb := n'.bx hb; clear n')
    repeat decreasing_trivial_pre_omega
    rw [n.take]
    exact ⟨by omega, by omega, n⟩
  · repeat decreasing_trivial_pre_omega
    refine ok_ifd (fun _ => ?_) (fun _ => ?_)
    · repeat decreasing_trivial_pre_omega
      (refine (take_spec hb (by omega) (by omega)).mono ?_; rintro _ _ ⟨d3, rfl, l_d3, u_d3, n'⟩; replace n := n.trans n'; replace hb := n'.bx hb; clear n')
      repeat decreasing_trivial_pre_omega
      rw [n.take]
      exact ⟨by omega, by omega, n⟩
    · repeat decreasing_trivial_pre_omega
      rw [n.take]
      exact ⟨(hv v mv).1, (hv v mv).2, n⟩

theorem shared_spec {a b : Int} {M : Mm} (ha : 0 ≤ a) (hb : 0 ≤ b) (hb2 : b ≤ 1000000) : Ok (F_l_shared [.d (.int a), .d (.int b)] M) fun w M' => M' = M ∧ ∃ g : Int, w = .d (.int g) ∧ 0 ≤ g ∧ g ∣ a ∧ g ∣ b ∧ ∃ x y, a * x + b * y = g := by
  unfold F_l_shared
  refine ok_fn rfl ?_
  unfold b_l_shared
  repeat decreasing_trivial_pre_omega
  refine (while_inv (QS := fun o M' => M' = M ∧ ∃ g t, o = .nx [some (.d (.int g)), t] ∧ 0 ≤ g ∧ g ∣ a ∧ g ∣ b ∧ ∃ x y, a * x + b * y = g)
    (I := fun m L M' => M' = M ∧ ∃ (h l : Int), L = [some (.d (.int h)), some (.d (.int l))] ∧ m = l.toNat ∧ 0 ≤ h ∧ 0 ≤ l ∧ l ≤ 1000000 ∧ (∃ x y, a * x + b * y = h) ∧ (∃ x y, a * x + b * y = l) ∧ ∀ c : Int, c ∣ h → c ∣ l → c ∣ a ∧ c ∣ b) ?_ NW b.toNat _ _
    ⟨rfl, a, b, rfl, rfl, ha, hb, hb2, ⟨1, 0, by omega⟩, ⟨0, 1, by omega⟩, fun c h1 h2 => ⟨h1, h2⟩⟩ (by rw [NW_eq]; omega)).mono ?_
  · rintro m L _ ⟨rfl, h, l, rfl, rfl, h0, l0, l1, ⟨x1, y1, e1⟩, ⟨x2, y2, e2⟩, hd⟩
    repeat decreasing_trivial_pre_omega
    refine ⟨fun hl => ?_, fun hl => ?_⟩
    · have hl : 0 < l := by simpa using hl
      have em1 := Int.emod_nonneg h (by omega : l ≠ 0)
      have em2 := Int.emod_lt_of_pos h hl
      have e : h - l * (h / l) = h % l := by rw [Int.emod_def]
      repeat decreasing_trivial_pre_omega
      refine ⟨(h % l).toNat, by omega, rfl, l, h % l, rfl, rfl, by omega, em1, by omega, ⟨x2, y2, e2⟩, ⟨x1 - x2 * (h / l), y1 - y2 * (h / l), ?_⟩, ?_⟩
      · rw [← e, ← e1, ← e2]; grind
      · intro c g1 g2
        refine hd c ?_ g1
        have := Int.dvd_add g2 (Int.dvd_trans g1 (Int.dvd_mul_right l (h / l)))
        rwa [← e, show h - l * (h / l) + l * (h / l) = h by omega] at this
    · have hl : l = 0 := by simp at hl; omega
      subst hl
      have := hd h (Int.dvd_refl h) (Int.dvd_zero h)
      exact ⟨rfl, h, _, rfl, h0, this.1, this.2, x1, y1, e1⟩
  · rintro _ _ ⟨rfl, g, t, rfl, h0, d1, d2, x, y, e⟩
    repeat decreasing_trivial_pre_omega
    exact ⟨by simp, _, rfl, h0, d1, d2, x, y, e⟩

/-! ### the inverse -/
theorem inverse_spec {n k : Int} {M : Mm} (hn : 2 ≤ n) (hn2 : n ≤ 1000000) : Ok (F_inverse [.d (.int n), .d (.int k)] M) fun w M' => M' = M ∧ ((∃ v, IsIv n k v ∧ w = .d (.int v)) ∨ ((¬ ∃ v, IsIv n k v) ∧ w = .d .non)) := by
  unfold F_inverse
  refine ok_fn rfl ?_
  unfold b_inverse
  repeat decreasing_trivial_pre_omega
  refine (while_inv (QS := fun o M' => M' = M ∧ ∃ h p q t, o = .nx [some (.d (.int n)), some (.d (.int k)), some (.d (.int h)), some (.d (.int 0)), some (.d (.int p)), some (.d (.int q)), t] ∧ 0 < h ∧ h ≤ n ∧ Cg n (p * k) h ∧ h ∣ n ∧ h ∣ k)
    (I := fun m L M' => M' = M ∧ ∃ (h l p q : Int) (t : Option W), L = [some (.d (.int n)), some (.d (.int k)), some (.d (.int h)), some (.d (.int l)), some (.d (.int p)), some (.d (.int q)), t] ∧ m = l.toNat ∧ 0 < h ∧ h ≤ n ∧ 0 ≤ l ∧ l ≤ n ∧ Cg n (p * k) h ∧ Cg n (q * k) l ∧ ∀ c : Int, c ∣ h → c ∣ l → c ∣ n ∧ c ∣ k) ?_ NW (k % n).toNat _ _
    ⟨rfl, n, k % n, 0, 1, none, rfl, rfl, by omega, by omega, Int.emod_nonneg _ (by omega), Int.le_of_lt (Int.emod_lt_of_pos _ (by omega)), ⟨-1, by grind⟩, ?_, ?_⟩ ?_).mono ?_
  · rintro m L _ ⟨rfl, h, l, p, q, t, rfl, rfl, h0, h1, l0, l1, c1, c2, hd⟩
    repeat decreasing_trivial_pre_omega
    refine ⟨fun hl => ?_, fun hl => ?_⟩
    · have hl : 0 < l := by simpa using hl
      have e : h - h / l * l = h % l := by rw [Int.emod_def, Int.mul_comm]
      have ht0 : 0 ≤ h / l := Int.ediv_nonneg (by omega) (by omega)
      have ht1 : h / l ≤ h := Int.ediv_le_self _ (by omega)
      repeat decreasing_trivial_pre_omega
      rw [e]
      have em1 := Int.emod_nonneg h (by omega : l ≠ 0)
      have em2 := Int.emod_lt_of_pos h hl
      refine ⟨(h % l).toNat, by omega, rfl, l, h % l, q, p - h / l * q, _, rfl, rfl, hl, by omega, em1, by omega, c2, ?_, ?_⟩
      · rw [← e]
        exact (Cg.of_eq (by grind)).trans (Cg.sub c1 (Cg.mul (Cg.rfl (a := h / l)) c2))
      · intro c g1 g2
        refine hd c ?_ g1
        have := Int.dvd_add g2 (Int.dvd_trans g1 (Int.dvd_mul_left (h / l) l))
        rwa [← e, show h - h / l * l + h / l * l = h by omega] at this
    · have hl : l = 0 := by simp at hl; omega
      subst hl
      have := hd h (Int.dvd_refl h) (Int.dvd_zero h)
      exact ⟨rfl, h, p, q, t, rfl, h0, h1, c1, this.1, this.2⟩
  · exact (Cg.of_eq (by grind)).trans (Cg.mod (a := k)).symm
  · intro c g1 g2
    refine ⟨g1, ?_⟩
    have := Int.dvd_add g2 (Int.dvd_trans g1 (Int.dvd_mul_right n (k / n)))
    rwa [Int.emod_add_mul_ediv] at this
  · rw [NW_eq]; have := Int.emod_lt_of_pos k (by omega : 0 < n); omega
  · rintro _ _ ⟨rfl, h, p, q, t, rfl, h0, h1, c1, d1, d2⟩
    have pn := Int.emod_nonneg p (by omega : n ≠ 0)
    have pl := Int.emod_lt_of_pos p (by omega : 0 < n)
    repeat decreasing_trivial_pre_omega
    refine ok_ifn (fun hh => ?_) (fun hh => ?_)
    · subst hh
      repeat decreasing_trivial_pre_omega
      refine ⟨by simp, .inl ⟨p % n, ⟨pn, pl, ?_⟩, rfl⟩⟩
      exact Cg.emod ((Cg.mul Cg.rfl Cg.mod).trans ((Cg.of_eq (Int.mul_comm _ _)).trans c1))
    · repeat decreasing_trivial_pre_omega
      refine ⟨by simp, .inr ⟨?_, rfl⟩⟩
      rintro ⟨v, v0, v1, e⟩
      obtain ⟨z, hz⟩ := Cg.of e
      have : h ∣ 1 := by
        have g1 : h ∣ k * v := Int.dvd_mul_of_dvd_left d2
        rw [hz] at g1
        exact (Int.dvd_add_left (Int.dvd_mul_of_dvd_left d1)).mp g1
      have := Int.le_of_dvd (by omega) this
      omega
theorem pworth_spec {n : Int} {gs : List Int} (hn : 2 ≤ n) (hn2 : n ≤ 1000000) (hg : Rs n gs) : ∀ {e : E}, wf gs.length e → ∀ fuel, dp e < fuel → ∀ M : Mm,
    Ok (F_worth fuel [.d (.int n), .d (enc e), .d (intsD gs)] M) (fun w M' => w = .d (.int (val n gs e)) ∧ M' = M) := by
  intro e
  induction e with
  | num c =>
    intro _ fuel hf M
    obtain ⟨f, rfl⟩ : ∃ f, fuel = f + 1 := ⟨fuel - 1, by omega⟩
    unfold F_worth
    simp only [enc, val]
    refine ok_fn rfl ?_
    unfold b_worth
    repeat decreasing_trivial_pre_omega
    exact ⟨rfl, by simp⟩
  | giv i =>
    intro h fuel hf M
    obtain ⟨f, rfl⟩ : ∃ f, fuel = f + 1 := ⟨fuel - 1, by omega⟩
    unfold F_worth
    simp only [enc, val]
    refine ok_fn rfl ?_
    unfold b_worth intsD
    repeat decreasing_trivial_pre_omega
    refine ok_ixT (get_int h) ?_
    repeat decreasing_trivial_pre_omega
    have r := hg.getD h
    exact ⟨by rw [Int.emod_eq_of_lt r.1 r.2], by simp⟩
  | op w a b iha ihb =>
    intro h fuel hf M
    obtain ⟨f, rfl⟩ : ∃ f, fuel = f + 1 := ⟨fuel - 1, by omega⟩
    have d1 : dp a < f := by simp only [dp] at hf; omega
    have d2 : dp b < f := by simp only [dp] at hf; omega
    have x := val_range (by omega : 0 < n) hg (e := a)
    have y := val_range (by omega : 0 < n) hg (e := b)
    have wa := fun M => iha h.1 f d1 M
    have wb := fun M => ihb h.2 f d2 M
    unfold F_worth
    simp only [enc, val]
    revert wa wb x y
    generalize val n gs a = x
    generalize val n gs b = y
    intro rx ry wa wb
    refine ok_fn rfl ?_
    unfold b_worth
    cases w with
    | sum =>
      simp only [Wd.str, Wd.ev]
      repeat decreasing_trivial_pre_omega
      refine (wa _).mono ?_
      rintro _ _ ⟨rfl, rfl⟩
      repeat decreasing_trivial_pre_omega
      refine (wb _).mono ?_
      rintro _ _ ⟨rfl, rfl⟩
      repeat decreasing_trivial_pre_omega
      exact ⟨rfl, by simp⟩
    | less =>
      simp only [Wd.str, Wd.ev]
      repeat decreasing_trivial_pre_omega
      refine (wa _).mono ?_
      rintro _ _ ⟨rfl, rfl⟩
      repeat decreasing_trivial_pre_omega
      refine (wb _).mono ?_
      rintro _ _ ⟨rfl, rfl⟩
      repeat decreasing_trivial_pre_omega
      exact ⟨rfl, by simp⟩
    | times =>
      simp only [Wd.str, Wd.ev]
      repeat decreasing_trivial_pre_omega
      refine (wa _).mono ?_
      rintro _ _ ⟨rfl, rfl⟩
      repeat decreasing_trivial_pre_omega
      refine (wb _).mono ?_
      rintro _ _ ⟨rfl, rfl⟩
      repeat decreasing_trivial_pre_omega
      exact ⟨rfl, by simp⟩

theorem worth_spec {n : Int} {gs : List Int} (hn : 2 ≤ n) (hn2 : n ≤ 1000000) (hg : Rs n gs) : ∀ {e : E}, wf gs.length e → ∀ fuel, dp e < fuel → ∀ M : Mm,
    Ok (F_l_worth fuel [.d (.int n), .d (enc e), .d (intsD gs)] M) (fun w M' => w = .d (.int (val n gs e)) ∧ M' = M) := by
  intro e
  induction e with
  | num c =>
    intro _ fuel hf M
    obtain ⟨f, rfl⟩ : ∃ f, fuel = f + 1 := ⟨fuel - 1, by omega⟩
    unfold F_l_worth
    simp only [enc, val]
    refine ok_fn rfl ?_
    unfold b_l_worth
    repeat decreasing_trivial_pre_omega
    exact ⟨rfl, by simp⟩
  | giv i =>
    intro h fuel hf M
    obtain ⟨f, rfl⟩ : ∃ f, fuel = f + 1 := ⟨fuel - 1, by omega⟩
    unfold F_l_worth
    simp only [enc, val]
    refine ok_fn rfl ?_
    unfold b_l_worth intsD
    repeat decreasing_trivial_pre_omega
    refine ok_ixT (get_int h) ?_
    repeat decreasing_trivial_pre_omega
    exact ⟨rfl, by simp⟩
  | op w a b iha ihb =>
    intro h fuel hf M
    obtain ⟨f, rfl⟩ : ∃ f, fuel = f + 1 := ⟨fuel - 1, by omega⟩
    have d1 : dp a < f := by simp only [dp] at hf; omega
    have d2 : dp b < f := by simp only [dp] at hf; omega
    have x := val_range (by omega : 0 < n) hg (e := a)
    have y := val_range (by omega : 0 < n) hg (e := b)
    have wa := fun M => iha h.1 f d1 M
    have wb := fun M => ihb h.2 f d2 M
    unfold F_l_worth
    simp only [enc, val]
    revert wa wb x y
    generalize val n gs a = x
    generalize val n gs b = y
    intro rx ry wa wb
    refine ok_fn rfl ?_
    unfold b_l_worth
    cases w with
    | sum =>
      simp only [Wd.str, Wd.ev]
      repeat decreasing_trivial_pre_omega
      refine (wa _).mono ?_
      rintro _ _ ⟨rfl, rfl⟩
      repeat decreasing_trivial_pre_omega
      refine (wb _).mono ?_
      rintro _ _ ⟨rfl, rfl⟩
      repeat decreasing_trivial_pre_omega
      exact ⟨rfl, by simp⟩
    | less =>
      simp only [Wd.str, Wd.ev]
      repeat decreasing_trivial_pre_omega
      refine (wa _).mono ?_
      rintro _ _ ⟨rfl, rfl⟩
      repeat decreasing_trivial_pre_omega
      refine (wb _).mono ?_
      rintro _ _ ⟨rfl, rfl⟩
      repeat decreasing_trivial_pre_omega
      exact ⟨rfl, by simp⟩
    | times =>
      simp only [Wd.str, Wd.ev]
      repeat decreasing_trivial_pre_omega
      refine (wa _).mono ?_
      rintro _ _ ⟨rfl, rfl⟩
      repeat decreasing_trivial_pre_omega
      refine (wb _).mono ?_
      rintro _ _ ⟨rfl, rfl⟩
      repeat decreasing_trivial_pre_omega
      exact ⟨rfl, by simp⟩

end K37

set_option Elab.async false
set_option linter.all false
set_option maxRecDepth 100000
set_option maxHeartbeats 4000000

namespace K37
open PySem L2 EV LS
local macro_rules | `(tactic| decreasing_trivial_pre_omega) => `(tactic| with_reducible first
  | refine ok_seq ?_ | refine ok_sAs ?_ | refine ok_gN ?_ | refine ok_e2 ?_ | refine ok_V (by with_unfolding_all exact rfl) ?_ | refine ok_C ?_ | refine ok_A ?_ | refine ok_aC ?_ | refine ok_aN ?_ | refine ok_tB ?_ | refine ok_sIf ?_ | refine ok_rt ?_ | refine ok_nil ?_ | refine ok_ex ?_ | refine ok_e1 ?_
  | refine ok_add ?_ | refine ok_ltA ?_ | refine ok_eqI ?_ | refine ok_neI ?_ | (refine ok_pI ?hz ?_; case hz => (with_unfolding_all first | exact rfl | decide | ((try simp only [decide_eq_true_eq, true_and, and_true, List.length_map, List.length_cons, List.length_nil, List.length_append, List.length_replicate]) <;> omega))) | (refine ok_mul ?hz ?_; case hz => (with_unfolding_all first | decide | ((try simp only [mulOk, decide_eq_true_eq, List.length_map, List.length_cons, List.length_nil, List.length_append, List.length_replicate]) <;> omega))) | refine ok_eqS ?_ | refine ok_neS ?_ | refine ok_eqB ?_ | refine ok_neB ?_ | refine ok_is ?_ | refine ok_isnot ?_ | refine ok_neg ?_ | refine ok_not ?_
  | refine ok_ixT (by with_unfolding_all exact rfl) ?_ | refine ok_ixL (by with_unfolding_all exact rfl) ?_ | refine ok_ixF (by with_unfolding_all exact rfl) ?_ | refine ok_ixR (by assumption) (by with_unfolding_all exact rfl) ?_ | refine ok_ixR (List.getElem?_set_self (by simpa only [List.length_set])) (by with_unfolding_all exact rfl) ?_
  | refine ok_tNot ?_ | refine ok_tAnd ?_ | refine ok_tOr ?_ | refine ok_tV ?_ | refine ok_tYes ?_ | refine ok_If ?_ | refine ok_And ?_ | refine ok_Or ?_
  | refine ok_mkT (by with_unfolding_all exact rfl) (by with_unfolding_all simp) ?_ | refine ok_mkL (by with_unfolding_all exact rfl) (by with_unfolding_all simp) ?_ | refine ok_mkR (by with_unfolding_all exact rfl) (by with_unfolding_all simp) ?_ | refine ok_ints ?_
  | refine ok_lenT ?_ | refine ok_lenL ?_ | refine ok_lenF ?_ | refine ok_lenR (by assumption) ?_ | refine ok_intB ?_ | refine ok_intI ?_ | refine ok_max ?_ | refine ok_min ?_
  | refine ok_M1 ?_ | refine ok_Sl ?_ | refine ok_SlR ?_ | refine ok_oNo ?_ | refine ok_oAt ?_ | refine ok_slT ?_ | refine ok_for ?_ | refine ok_iR1 ?_ | refine ok_iR2 ?_ | refine ok_iE (s := ⟨[], none⟩) ?_ | refine ok_iRv ?_ | refine ok_iZip ?_ | refine ok_iDown ?_ | refine ok_iEnum ?_ | refine ok_augS ?_ | refine ok_pick ?_ | refine ok_trim ?_ | refine ok_forW ?_ | refine ok_sPar ?_ | refine ok_par3 ?_ | refine ok_gS ?_ | refine ok_gsC ?_ | refine ok_gsN ?_ | refine ok_bk ?_ | refine ok_ct ?_
  | refine ok_isi (by with_unfolding_all exact rfl) ?_ | refine ok_retD ?_ | refine ok_gT (by with_unfolding_all exact rfl) ?_ | refine ok_gTL (by with_unfolding_all exact rfl) ?_ | refine ⟨_, rfl, ?_⟩ | refine ⟨_, _, _, _, rfl, rfl, by assumption, by with_unfolding_all exact rfl, ?_⟩ | refine ⟨_, _, _, _, rfl, rfl, List.getElem?_set_self (by simpa only [List.length_set]), by with_unfolding_all exact rfl, ?_⟩
  | refine ok_ifT (by with_unfolding_all decide) ?_ | refine ok_ifF (by with_unfolding_all decide) ?_ | refine ⟨fun h => absurd h (by with_unfolding_all decide), fun _ => ?_⟩ | refine ⟨fun _ => ?_, fun h => absurd h (by with_unfolding_all decide)⟩ | refine ⟨_, _, rfl, ?_⟩ | refine ⟨_, _, _, rfl, ?_⟩)
inductive IsS (g : Int) : Nat → D → Prop
  | yes (k : Nat) (i : Int) (l : 0 ≤ i) (u : i < g) : IsS g k (.tup [.str "yes", .int i])
  | nt (k : Nat) (a : D) (ha : IsS g k a) : IsS g (k + 1) (.tup [.str "not", a])
  | two (k : Nat) (w : Str) (a b : D) (h : w = "and" ∨ w = "or") (ha : IsS g k a) (hb : IsS g k b) : IsS g (k + 1) (.tup [.str w, a, b])
  | least (k : Nat) (m : Int) (xs : List D) (h0 : 0 ≤ m) (h6 : m ≤ 6) (h1 : 1 ≤ xs.length) (hl : xs.length ≤ 5) (hx : ∀ x ∈ xs, IsS g k x) : IsS g (k + xs.length) (.tup [.str "least", .int m, .tup xs])
theorem IsS.up {g : Int} {k : Nat} {d : D} (h : IsS g k d) : ∀ {n : Nat}, k ≤ n → IsS g n d := by
  induction h with
  | yes k i l u => intro n _; exact .yes _ _ l u
  | nt k a ha ih =>
    intro n hn
    obtain ⟨m, rfl⟩ : ∃ m, n = m + 1 := ⟨n - 1, by omega⟩
    exact .nt _ _ (ih (by omega))
  | two k w a b h ha hb iha ihb =>
    intro n hn
    obtain ⟨m, rfl⟩ : ∃ m, n = m + 1 := ⟨n - 1, by omega⟩
    exact .two _ _ _ _ h (iha (by omega)) (ihb (by omega))
  | least k m xs h0 h6 h1 hl hx ih =>
    intro n hn
    obtain ⟨m, rfl⟩ : ∃ m, n = m + xs.length := ⟨n - xs.length, by omega⟩
    exact .least _ _ _ h0 h6 h1 hl fun x h => ih x h (by omega)
theorem saying_spec : ∀ (k : Nat) (fuel : Nat) (M : Mm) (b : Nat) (g r : Int), Bx M b → 0 < g → g < 1000 → 0 < r → r = k → k < 100 → k < fuel → Ok (F_l_saying fuel [.ref b, .d (.int g), .d (.int r)] M) fun w M' => ∃ d, w = .d d ∧ IsS g k d ∧ Nx b M M' := by
  intro k
  induction k using Nat.strongRecOn with
  | ind k ih =>
  intro fuel M b g r hb g0 g1 r0 he hk hf
  obtain ⟨f, rfl⟩ : ∃ f, fuel = f + 1 := ⟨fuel - 1, by omega⟩
  subst he
  have n := Nx.refl hb
  unfold F_l_saying
  refine ok_fn rfl ?_
  unfold b_l_saying
  repeat decreasing_trivial_pre_omega
  (refine (take_spec hb (by omega) (by omega)).mono ?_; rintro _ _ ⟨d1, rfl, l_d1, u_d1, n'⟩; replace n := n.trans n'; replace hb := n'.bx hb; clear n')
  rename_i M1
  refine ok_gN (ok_seq (ok_sIf (Ok.mono (Q := fun c M2 => M2 = M1 ∧ (c = false → 2 ≤ k ∧ d1 ≠ 0)) ?_ ?_)))
  · repeat decreasing_trivial_pre_omega
    refine ⟨fun h => ⟨rfl, fun h => by simp at h⟩, fun h => ?_⟩
    repeat decreasing_trivial_pre_omega
    refine ⟨rfl, fun h' => ⟨by have : ¬ (k : Int) < 2 := by simpa using h
                               omega, by simpa using h'⟩⟩
  rintro c M1' ⟨rfl, hc⟩
  refine ok_if (fun h => ?_) (fun h => ?_)
  · repeat decreasing_trivial_pre_omega
    (refine (take_spec hb (by omega) (by omega)).mono ?_; rintro _ _ ⟨d2, rfl, l_d2, u_d2, n'⟩; replace n := n.trans n'; replace hb := n'.bx hb; clear n')
    repeat decreasing_trivial_pre_omega
    rw [n.take]
    exact ⟨.yes _ _ l_d2 u_d2, n⟩
  obtain ⟨h2, h1⟩ := hc h
  obtain ⟨k', rfl⟩ : ∃ k', k = k' + 1 := ⟨k - 1, by omega⟩
  clear hc h
  repeat decreasing_trivial_pre_omega
  refine ok_ifd (fun h => ?_) (fun h => ?_)
  · repeat decreasing_trivial_pre_omega
    refine (ih k' (by omega) f _ b g _ hb g0 g1 (by omega) (by omega) (by omega) (by omega)).mono ?_
    rintro _ _ ⟨a1, rfl, i1, n'⟩
    replace n := n.trans n'
    repeat decreasing_trivial_pre_omega
    rw [n.take]
    exact ⟨.nt _ _ i1, n⟩
  refine ok_nil (ok_seq (ok_sIf (Ok.mono (Q := fun c M2 => M2 = M1' ∧ (c = false → 3 ≤ k' + 1 ∧ 4 ≤ d1)) ?_ ?_)))
  · repeat decreasing_trivial_pre_omega
    refine ⟨fun h => ⟨rfl, fun h => by simp at h⟩, fun h => ?_⟩
    repeat decreasing_trivial_pre_omega
    refine ⟨rfl, fun h' => ⟨by have : ¬ ((k' + 1 : Nat) : Int) < 3 := by simpa using h
                               omega, by simpa using h'⟩⟩
  rintro c _ ⟨rfl, hc⟩
  refine ok_if (fun h => ?_) (fun h => ?_)
  · repeat decreasing_trivial_pre_omega
    have hmin : 0 < (if ((k' + 1 : Nat) : Int) - 1 < 5 then ((k' + 1 : Nat) : Int) - 1 else 5) := by split <;> omega
    refine (take_spec hb hmin (by split <;> omega)).mono ?_
    rintro _ M2 ⟨d2, rfl, l2, u2, n'⟩
    replace n := n.trans n'
    replace hb := n'.bx hb
    clear n'
    have u2' : d2 < 5 ∧ d2 < k' := by revert u2; split <;> intro u2 <;> omega
    repeat decreasing_trivial_pre_omega
    refine ⟨by simp only [in62, decide_eq_true_eq]; omega, ?_⟩
    refine forD_inv (fun i L M' => ∃ (Mi : Mm) (acc : List D) (left : Int) (a c e : Option W), L = [some (.ref b), some (.d (.int g)), some (.d (.int ((k' + 1 : Nat) : Int))), some (.d (.int d1)), some (.d (.int (1 + d2))), some (.ref M2.length), some (.d (.int left)), a, c, e] ∧ M' = Mi ++ [acc] ∧ Nx b M Mi ∧ Bx Mi b ∧ Mi.length = M2.length ∧ acc.length = i ∧ (∀ x ∈ acc, IsS g (k' - d2.toNat) x) ∧ (1 + d2) - i ≤ left ∧ left ≤ (k' : Int) - i) ⟨M2, [], _, none, none, none, rfl, rfl, n, hb, rfl, rfl, by simp, by omega, by omega⟩ (fun i L M _ _ t e => by cases e) ?_ ?_
    · clear n hb
      rintro i d _ _ hd ⟨Mi, acc, left, a, c, e, rfl, rfl, n, hb, hlen, ha, hacc, hl1, hl2⟩
      obtain ⟨hi, rfl⟩ := rngD_get hd
      have bl := hb.lt
      repeat decreasing_trivial_pre_omega
      refine (take_spec (hb.app (J := [acc])) (by omega) (by omega)).mono ?_
      rintro _ _ ⟨d3, rfl, l3, u3, n'⟩
      obtain ⟨M3, rfl, n3⟩ := n'.unapp bl
      have hb3 := n3.bx hb
      repeat decreasing_trivial_pre_omega
      refine (ih (1 + d3).toNat (by omega) f _ b g _ (hb3.app (J := [acc])) g0 g1 (by omega) (Int.toNat_of_nonneg (by omega)).symm (by omega) (by omega)).mono ?_
      rintro _ _ ⟨a1, rfl, i1, n''⟩
      obtain ⟨M4, rfl, n4⟩ := n''.unapp hb3.lt
      have e4 : M2.length = M4.length := by rw [n4.len, n3.len, hlen]
      repeat decreasing_trivial_pre_omega
      refine ok_append (xs := acc) (by rw [e4]; simp) (by omega) ?_
      rw [show (M4 ++ [acc]).set M2.length (acc ++ [a1]) = M4 ++ [acc ++ [a1]] by rw [e4]; simp]
      repeat decreasing_trivial_pre_omega
      refine ⟨M4, _, _, _, _, _, rfl, rfl, (n.trans n3).trans n4, n4.bx hb3, e4.symm, by simp [ha], ?_, by simp only [Int.natCast_add]; omega, by omega⟩
      intro x hx
      rcases List.mem_append.mp hx with hx | hx
      · exact hacc x hx
      · rw [List.mem_singleton.mp hx]; exact i1.up (by omega)
    · clear n hb
      rintro _ _ ⟨Mi, acc, left, a, c, e, rfl, rfl, n, hb, hlen, ha, hacc, hl1, hl2⟩
      have hal1 : 1 ≤ acc.length := by rw [ha]; simp only [rngD, List.length_map, List.length_range]; omega
      have hal : acc.length ≤ 5 := by rw [ha]; simp only [rngD, List.length_map, List.length_range]; omega
      repeat decreasing_trivial_pre_omega
      refine (take_spec (hb.app (J := [acc])) (by omega) (by omega)).mono ?_
      rintro _ _ ⟨d3, rfl, l3, u3, n'⟩
      obtain ⟨M3, rfl, n3⟩ := n'.unapp hb.lt
      have e3 : M2.length = M3.length := by rw [n3.len, hlen]
      repeat decreasing_trivial_pre_omega
      refine ok_tup (xs := acc) (by simp only [sv, lr, lv]; rw [e3]; simp) ?_
      repeat decreasing_trivial_pre_omega
      have n5 := n.trans n3
      rw [show List.take M.length (M3 ++ [acc]) = M3 by rw [← n5.len]; simp]
      have il := IsS.least (k' - d2.toNat) d3 acc l3 (by omega) hal1 hal hacc
      have hal2 : acc.length = (1 + d2).toNat := by rw [ha]; simp only [rngD, List.length_map, List.length_range]
      rw [show k' - d2.toNat + acc.length = k' + 1 by omega] at il
      exact ⟨il, n5⟩
  · obtain ⟨h3, h4⟩ := hc h
    repeat decreasing_trivial_pre_omega
    (refine (take_spec hb (by omega) (by omega)).mono ?_; rintro _ _ ⟨d2, rfl, l_d2, u_d2, n'⟩; replace n := n.trans n'; replace hb := n'.bx hb; clear n')
    repeat decreasing_trivial_pre_omega
    refine (ih _ (by omega) f _ b g _ hb g0 g1 (by omega) (Int.toNat_of_nonneg (by omega)).symm (by omega) (by omega)).mono ?_
    rintro _ _ ⟨a1, rfl, i1, n'⟩
    replace n := n.trans n'
    replace hb := n'.bx hb
    clear n'
    repeat decreasing_trivial_pre_omega
    obtain ⟨w, ew, hw⟩ := at2 (d := d1 - 4) (by omega) (by omega) (.str "and") (.str "or")
    refine ok_ixL ew ?_
    repeat decreasing_trivial_pre_omega
    refine (ih _ (by omega) f _ b g _ hb g0 g1 (by omega) (Int.toNat_of_nonneg (by omega)).symm (by omega) (by omega)).mono ?_
    rintro _ _ ⟨a2, rfl, i2, n'⟩
    replace n := n.trans n'
    repeat decreasing_trivial_pre_omega
    rw [n.take]
    have hw' : ∃ s, w = .str s ∧ (s = "and" ∨ s = "or") := by
      rcases hw with rfl | rfl
      · exact ⟨_, rfl, by simp⟩
      · exact ⟨_, rfl, by simp⟩
    obtain ⟨s, rfl, hs⟩ := hw'
    exact ⟨.two _ _ _ _ hs (i1.up (by omega)) (i2.up (by omega)), n⟩
/-- both counts of what holds -/
theorem count_spec {F : Fn} {xs : List D} {as_ : D} {bf : D → Bool} {M : Mm} {Q : W → Mm → Prop} {L : Lc} {h : FE} (hz : xs.length ≤ 5) (hL : outL [none, some 1] L = [none, some (.d as_)])
    (hF : ∀ x ∈ xs, ∀ M : Mm, Ok (F [.d x, .d as_] M) fun w M' => w = .d (.bl (bf x)) ∧ M' = M)
    (hh : Ok (h L M) fun w M' => w = .d (.tup xs) ∧ M' = M)
    (q : Q (.d (.lst (xs.filter bf))) M) :
    Ok (eComp [none, some 1] (iE h) (gN 0) (tV (eA F (aCons (eV 0) (aCons (eV 1) aNil)))) (eV 0) L M) Q := by
  refine comp_inv (fun i acc L' M' => acc = (xs.take i).filter bf ∧ M' = M ∧ ∃ a, L' = [a, some (.d as_)]) ?_
  refine ok_iE (s := ⟨[], none⟩) (hh.mono ?_)
  rintro _ _ ⟨rfl, rfl⟩
  refine ⟨⟨xs, none⟩, rfl, ⟨rfl, rfl, none, hL⟩, ?_, by simp; omega, ?_, ?_⟩
  · rintro i acc L' M' hi ⟨rfl, rfl, _⟩
    refine ⟨rfl, (fun t e => by cases e), ?_⟩
    have := List.length_filter_le bf (xs.take i)
    simp only [List.length_take] at this
    omega
  · rintro i d acc _ _ hd ⟨rfl, rfl, a, rfl⟩
    have hm : d ∈ xs := List.mem_of_getElem? hd
    have hi : xs.take (i + 1) = xs.take i ++ [d] := by rw [List.take_add_one, show xs[i]? = some d from hd]; rfl
    repeat decreasing_trivial_pre_omega
    refine (hF d hm _).mono ?_
    rintro _ _ ⟨rfl, rfl⟩
    refine ⟨bf d, rfl, fun hb => ?_, fun hb => ?_⟩
    · repeat decreasing_trivial_pre_omega
      exact ⟨_, _, rfl, rfl, by rw [hi, List.filter_append]; simp [hb], rfl, _, rfl⟩
    · exact ⟨_, rfl, by rw [hi, List.filter_append]; simp [hb], rfl, _, rfl⟩
  · rintro acc L' M' ⟨rfl, rfl, _⟩
    simpa using q
end K37

set_option Elab.async false
set_option linter.all false
set_option maxRecDepth 100000
set_option maxHeartbeats 4000000

namespace K37
open PySem L2 EV LS
local macro_rules | `(tactic| decreasing_trivial_pre_omega) => `(tactic| with_reducible first
  | refine ok_seq ?_ | refine ok_sAs ?_ | refine ok_gN ?_ | refine ok_e2 ?_ | refine ok_V (by with_unfolding_all exact rfl) ?_ | refine ok_C ?_ | refine ok_A ?_ | refine ok_aC ?_ | refine ok_aN ?_ | refine ok_tB ?_ | refine ok_sIf ?_ | refine ok_rt ?_ | refine ok_nil ?_ | refine ok_ex ?_ | refine ok_e1 ?_
  | refine ok_add ?_ | refine ok_ltA ?_ | refine ok_eqI ?_ | refine ok_neI ?_ | (refine ok_pI ?hz ?_; case hz => (with_unfolding_all first | exact rfl | decide | ((try simp only [decide_eq_true_eq, true_and, and_true, List.length_map, List.length_cons, List.length_nil, List.length_append, List.length_replicate]) <;> omega))) | (refine ok_mul ?hz ?_; case hz => (with_unfolding_all first | decide | ((try simp only [mulOk, decide_eq_true_eq, List.length_map, List.length_cons, List.length_nil, List.length_append, List.length_replicate]) <;> omega))) | refine ok_eqS ?_ | refine ok_neS ?_ | refine ok_eqB ?_ | refine ok_neB ?_ | refine ok_is ?_ | refine ok_isnot ?_ | refine ok_neg ?_ | refine ok_not ?_
  | refine ok_ixT (by with_unfolding_all exact rfl) ?_ | refine ok_ixL (by with_unfolding_all exact rfl) ?_ | refine ok_ixF (by with_unfolding_all exact rfl) ?_ | refine ok_ixR (by assumption) (by with_unfolding_all exact rfl) ?_ | refine ok_ixR (List.getElem?_set_self (by simpa only [List.length_set])) (by with_unfolding_all exact rfl) ?_
  | refine ok_tNot ?_ | refine ok_tAnd ?_ | refine ok_tOr ?_ | refine ok_tV ?_ | refine ok_tYes ?_ | refine ok_If ?_ | refine ok_And ?_ | refine ok_Or ?_
  | refine ok_mkT (by with_unfolding_all exact rfl) (by with_unfolding_all simp) ?_ | refine ok_mkL (by with_unfolding_all exact rfl) (by with_unfolding_all simp) ?_ | refine ok_mkR (by with_unfolding_all exact rfl) (by with_unfolding_all simp) ?_ | refine ok_ints ?_
  | refine ok_lenT ?_ | refine ok_lenL ?_ | refine ok_lenF ?_ | refine ok_lenR (by assumption) ?_ | refine ok_intB ?_ | refine ok_intI ?_ | refine ok_max ?_ | refine ok_min ?_
  | refine ok_M1 ?_ | refine ok_Sl ?_ | refine ok_SlR ?_ | refine ok_oNo ?_ | refine ok_oAt ?_ | refine ok_slT ?_ | refine ok_for ?_ | refine ok_iR1 ?_ | refine ok_iR2 ?_ | refine ok_iE (s := ⟨[], none⟩) ?_ | refine ok_iRv ?_ | refine ok_iZip ?_ | refine ok_iDown ?_ | refine ok_iEnum ?_ | refine ok_augS ?_ | refine ok_pick ?_ | refine ok_trim ?_ | refine ok_forW ?_ | refine ok_sPar ?_ | refine ok_par3 ?_ | refine ok_gS ?_ | refine ok_gsC ?_ | refine ok_gsN ?_ | refine ok_bk ?_ | refine ok_ct ?_
  | refine ok_isi (by with_unfolding_all exact rfl) ?_ | refine ok_retD ?_ | refine ok_gT (by with_unfolding_all exact rfl) ?_ | refine ok_gTL (by with_unfolding_all exact rfl) ?_ | refine ⟨_, rfl, ?_⟩ | refine ⟨_, _, _, _, rfl, rfl, by assumption, by with_unfolding_all exact rfl, ?_⟩ | refine ⟨_, _, _, _, rfl, rfl, List.getElem?_set_self (by simpa only [List.length_set]), by with_unfolding_all exact rfl, ?_⟩
  | refine ok_ifT (by with_unfolding_all decide) ?_ | refine ok_ifF (by with_unfolding_all decide) ?_ | refine ⟨fun h => absurd h (by with_unfolding_all decide), fun _ => ?_⟩ | refine ⟨fun _ => ?_, fun h => absurd h (by with_unfolding_all decide)⟩ | refine ⟨_, _, rfl, ?_⟩ | refine ⟨_, _, _, rfl, ?_⟩)
/-! ### steps of a row -/
def diff : List Int → List Int
  | a :: b :: r => (b - a) :: diff (b :: r)
  | _ => []
def bin : Nat → Nat → Nat
  | _, 0 => 1
  | 0, _ + 1 => 0
  | t + 1, i + 1 => bin t i + bin t (i + 1)
def fac : Nat → Nat
  | 0 => 1
  | i + 1 => (i + 1) * fac i
def dN : Nat → List Int → List Int
  | 0, r => r
  | i + 1, r => diff (dN i r)
/-- T (T - 1) .. (T - i + 1) -/
def ff (T : Int) : Nat → Int
  | 0 => 1
  | i + 1 => ff T i * (T - i)
theorem diff_length : ∀ r : List Int, (diff r).length = r.length - 1
  | [] => rfl
  | [_] => rfl
  | a :: b :: r => by simp only [diff, List.length_cons, diff_length (b :: r)]; omega
theorem diff_getD : ∀ (r : List Int) (i : Nat), i + 1 < r.length → (diff r).getD i 0 = r.getD (i + 1) 0 - r.getD i 0
  | [], i, h => by simp at h
  | [_], i, h => by simp at h
  | a :: b :: r, 0, h => by simp [diff]
  | a :: b :: r, i + 1, h => by
    have := diff_getD (b :: r) i (by simpa using h)
    simpa [diff] using this
theorem dN_length (i : Nat) (r : List Int) : (dN i r).length = r.length - i := by
  induction i with
  | zero => rfl
  | succ i ih => simp only [dN, diff_length, ih]; omega
theorem dN_diff (i : Nat) (r : List Int) : dN i (diff r) = dN (i + 1) r := by
  induction i with
  | zero => rfl
  | succ i ih => rw [dN, ih]; rfl
def newt (T : Nat) (r : List Int) : Nat → Int
  | 0 => 0
  | i + 1 => newt T r i + (bin T i : Int) * (dN i r).getD 0 0
theorem bin_zero (T : Nat) : bin T 0 = 1 := by cases T <;> rfl
theorem newt_step (T : Nat) (r : List Int) : ∀ m : Nat, newt (T + 1) r (m + 1) = newt T r (m + 1) + newt T (diff r) m
  | 0 => by simp [newt, bin_zero]
  | m + 1 => by
    have ih := newt_step T r m
    have e : newt (T + 1) r (m + 1 + 1) = newt (T + 1) r (m + 1) + (bin (T + 1) (m + 1) : Int) * (dN (m + 1) r).getD 0 0 := rfl
    have e2 : newt T r (m + 1 + 1) = newt T r (m + 1) + (bin T (m + 1) : Int) * (dN (m + 1) r).getD 0 0 := rfl
    have e3 : newt T (diff r) (m + 1) = newt T (diff r) m + (bin T m : Int) * (dN (m + 1) r).getD 0 0 := by rw [← dN_diff]; rfl
    rw [e, e2, e3, ih]
    simp only [bin, Int.natCast_add]
    grind
theorem newt_row : ∀ (T m : Nat) (r : List Int), T < m → T < r.length → newt T r m = r.getD T 0
  | 0, m + 1, r, _, _ => by
    have : ∀ k : Nat, newt 0 r (k + 1) = r.getD 0 0 := by
      intro k
      induction k with
      | zero => simp [newt, bin, dN]
      | succ k ih => rw [newt, ih]; simp [bin]
    exact this m
  | T + 1, m + 1, r, h1, h2 => by
    rw [newt_step, newt_row T (m + 1) r (by omega) (by omega), newt_row T m (diff r) (by omega) (by rw [diff_length]; omega), diff_getD r T h2]
    omega
theorem ff_bin : ∀ (T i : Nat), ff (T : Int) i = (fac i * bin T i : Nat)
  | T, 0 => by cases T <;> rfl
  | T, i + 1 => by
    have ih := ff_bin T i
    have key : ∀ (T i : Nat), ((T : Int) - i) * bin T i = (i + 1) * bin T (i + 1) := by
      intro T
      induction T with
      | zero =>
        intro i
        cases i with
        | zero => simp [bin]
        | succ i => simp [bin]
      | succ T iht =>
        intro i
        cases i with
        | zero =>
          have := iht 0
          simp only [bin, bin_zero] at this ⊢
          simp at this ⊢
          omega
        | succ i =>
          have h1 := iht i
          have h2 := iht (i + 1)
          simp only [bin, Int.natCast_add] at h1 h2 ⊢
          simp only [Int.natCast_add, Int.natCast_one] at h1 h2 ⊢
          grind
    have k := key T i
    simp only [ff, ih, fac]
    simp only [Int.natCast_mul, Int.natCast_add, Int.natCast_one]
    grind
/-- the told worth, from the end on -/
def horn (n : Int) (T : Int) (u : Nat → Int) (m : Nat) : Nat → Int
  | 0 => u m
  | j + 1 => u (m - 1 - j) + (T - (m - 1 - j : Nat)) * horn n T u m j
end K37

set_option Elab.async false
set_option linter.all false
set_option maxRecDepth 100000
set_option maxHeartbeats 4000000

namespace K37
open PySem L2 EV LS
local macro_rules | `(tactic| decreasing_trivial_pre_omega) => `(tactic| with_reducible first
  | refine ok_seq ?_ | refine ok_sAs ?_ | refine ok_gN ?_ | refine ok_e2 ?_ | refine ok_V (by with_unfolding_all exact rfl) ?_ | refine ok_C ?_ | refine ok_A ?_ | refine ok_aC ?_ | refine ok_aN ?_ | refine ok_tB ?_ | refine ok_sIf ?_ | refine ok_rt ?_ | refine ok_nil ?_ | refine ok_ex ?_ | refine ok_e1 ?_
  | refine ok_add ?_ | refine ok_ltA ?_ | refine ok_eqI ?_ | refine ok_neI ?_ | (refine ok_pI ?hz ?_; case hz => (with_unfolding_all first | exact rfl | decide | ((try simp only [decide_eq_true_eq, true_and, and_true, List.length_map, List.length_cons, List.length_nil, List.length_append, List.length_replicate]) <;> omega))) | (refine ok_mul ?hz ?_; case hz => (with_unfolding_all first | decide | ((try simp only [mulOk, decide_eq_true_eq, List.length_map, List.length_cons, List.length_nil, List.length_append, List.length_replicate]) <;> omega))) | refine ok_eqS ?_ | refine ok_neS ?_ | refine ok_eqB ?_ | refine ok_neB ?_ | refine ok_is ?_ | refine ok_isnot ?_ | refine ok_neg ?_ | refine ok_not ?_
  | refine ok_ixT (by with_unfolding_all exact rfl) ?_ | refine ok_ixL (by with_unfolding_all exact rfl) ?_ | refine ok_ixF (by with_unfolding_all exact rfl) ?_ | refine ok_ixR (by assumption) (by with_unfolding_all exact rfl) ?_ | refine ok_ixR (List.getElem?_set_self (by simpa only [List.length_set])) (by with_unfolding_all exact rfl) ?_
  | refine ok_tNot ?_ | refine ok_tAnd ?_ | refine ok_tOr ?_ | refine ok_tV ?_ | refine ok_tYes ?_ | refine ok_If ?_ | refine ok_And ?_ | refine ok_Or ?_
  | refine ok_mkT (by with_unfolding_all exact rfl) (by with_unfolding_all simp) ?_ | refine ok_mkL (by with_unfolding_all exact rfl) (by with_unfolding_all simp) ?_ | refine ok_mkR (by with_unfolding_all exact rfl) (by with_unfolding_all simp) ?_ | refine ok_ints ?_
  | refine ok_lenT ?_ | refine ok_lenL ?_ | refine ok_lenF ?_ | refine ok_lenR (by assumption) ?_ | refine ok_intB ?_ | refine ok_intI ?_ | refine ok_max ?_ | refine ok_min ?_
  | refine ok_M1 ?_ | refine ok_Sl ?_ | refine ok_SlR ?_ | refine ok_oNo ?_ | refine ok_oAt ?_ | refine ok_slT ?_ | refine ok_for ?_ | refine ok_iR1 ?_ | refine ok_iR2 ?_ | refine ok_iE (s := ⟨[], none⟩) ?_ | refine ok_iRv ?_ | refine ok_iZip ?_ | refine ok_iDown ?_ | refine ok_iEnum ?_ | refine ok_augS ?_ | refine ok_pick ?_ | refine ok_trim ?_ | refine ok_forW ?_ | refine ok_sPar ?_ | refine ok_par3 ?_ | refine ok_gS ?_ | refine ok_gsC ?_ | refine ok_gsN ?_ | refine ok_bk ?_ | refine ok_ct ?_
  | refine ok_isi (by with_unfolding_all exact rfl) ?_ | refine ok_retD ?_ | refine ok_gT (by with_unfolding_all exact rfl) ?_ | refine ok_gTL (by with_unfolding_all exact rfl) ?_ | refine ⟨_, rfl, ?_⟩ | refine ⟨_, _, _, _, rfl, rfl, by assumption, by with_unfolding_all exact rfl, ?_⟩ | refine ⟨_, _, _, _, rfl, rfl, List.getElem?_set_self (by simpa only [List.length_set]), by with_unfolding_all exact rfl, ?_⟩
  | refine ok_ifT (by with_unfolding_all decide) ?_ | refine ok_ifF (by with_unfolding_all decide) ?_ | refine ⟨fun h => absurd h (by with_unfolding_all decide), fun _ => ?_⟩ | refine ⟨fun _ => ?_, fun h => absurd h (by with_unfolding_all decide)⟩ | refine ⟨_, _, rfl, ?_⟩ | refine ⟨_, _, _, rfl, ?_⟩)
def sm (T : Int) (u : Nat → Int) : Nat → Int
  | 0 => 0
  | i + 1 => sm T u i + u i * ff T i
theorem horn_sm {n T : Int} {u : Nat → Int} {m : Nat} : ∀ j : Nat, j ≤ m → sm T u (m - j) + ff T (m - j) * horn n T u m j = sm T u (m + 1)
  | 0, _ => by simp only [horn, Nat.sub_zero, sm]; grind
  | j + 1, h => by
    have ih := horn_sm (n := n) (T := T) (u := u) (m := m) j (by omega)
    obtain ⟨p, hp⟩ : ∃ p, m - j = p + 1 := ⟨m - j - 1, by omega⟩
    have e1 : m - (j + 1) = p := by omega
    have e2 : m - 1 - j = p := by omega
    rw [hp] at ih
    simp only [horn, e1, e2]
    have e3 : sm T u (p + 1) = sm T u p + u p * ff T p := rfl
    have e4 : ff T (p + 1) = ff T p * (T - p) := rfl
    rw [e3, e4] at ih
    rw [← ih]
    grind
theorem horn_row {n : Int} {u : Nat → Int} {m T : Nat} {row : List Int} (hT : T ≤ m) (hl : row.length = m + 1) (h : ∀ i, i ≤ m → Cg n (u i * fac i) ((dN i row).getD 0 0)) : Cg n (horn n T u m m) (row.getD T 0) := by
  have h1 := horn_sm (n := n) (T := T) (u := u) (m := m) m (Nat.le_refl _)
  rw [Nat.sub_self] at h1
  simp only [sm, ff] at h1
  have h2 : horn n T u m m = sm T u (m + 1) := by simp only [sm]; omega
  rw [h2]
  have h3 : ∀ k : Nat, k ≤ m + 1 → Cg n (sm T u k) (newt T row k) := by
    intro k
    induction k with
    | zero => intro _; exact Cg.rfl
    | succ k ih =>
      intro hk
      simp only [sm, newt]
      refine (ih (by omega)).add ?_
      rw [ff_bin]
      have := (h k (by omega)).mul (Cg.rfl (n := n) (a := (bin T k : Int)))
      refine (Cg.of_eq ?_).trans (this.trans (Cg.of_eq ?_))
      · simp only [Int.natCast_mul]; grind
      · rw [Int.mul_comm]
  have := h3 (m + 1) (Nat.le_refl _)
  rwa [newt_row T (m + 1) row (by omega) (by omega)] at this
theorem diff_get : ∀ {l : List Int} {i : Nat} {a b : Int}, l[i]? = some a → l[i + 1]? = some b → (diff l)[i]? = some (b - a)
  | [], i, a, b, h, _ => by simp at h
  | [_], i, a, b, _, h => by simp at h
  | x :: y :: r, 0, a, b, h1, h2 => by simp at h1 h2; subst h1 h2; rfl
  | x :: y :: r, i + 1, a, b, h1, h2 => by
    have := diff_get (l := y :: r) (i := i) (by simpa using h1) (by simpa using h2)
    simpa [diff] using this
theorem diff_bd {B : Int} : ∀ {l : List Int}, (∀ x ∈ l, -B ≤ x ∧ x ≤ B) → ∀ x ∈ diff l, -(2 * B) ≤ x ∧ x ≤ 2 * B
  | [], _, x, h => by simp [diff] at h
  | [_], _, x, h => by simp [diff] at h
  | a :: b :: r, hb, x, h => by
    simp only [diff, List.mem_cons] at h
    rcases h with rfl | h
    · have h1 := hb a (by simp); have h2 := hb b (by simp); omega
    · exact diff_bd (l := b :: r) (fun y hy => hb y (by simp only [List.mem_cons] at hy ⊢; exact .inr hy)) x h
theorem dN_bd {l : List Int} (h : ∀ x ∈ l, 0 ≤ x ∧ x ≤ 1) : ∀ i : Nat, ∀ x ∈ dN i l, -(2 ^ i : Int) ≤ x ∧ x ≤ 2 ^ i
  | 0, x, hx => by have := h x hx; simp only [Int.pow_zero]; omega
  | i + 1, x, hx => by
    have := diff_bd (dN_bd h i) x hx
    rw [Int.pow_succ]
    omega
theorem inverse_of_spec {n j : Int} {M : Mm} (hn : 2 ≤ n) (hn2 : n ≤ 1000000) (h : ∃ v, IsIv n j v) : Ok (F_inverse_of [.d (.int n), .d (.int j)] M) fun w M' => (∃ v, w = .d (.int v) ∧ IsIv n j v) ∧ M' = M := by
  unfold F_inverse_of
  refine ok_fn rfl ?_
  unfold b_inverse_of
  repeat decreasing_trivial_pre_omega
  refine (inverse_spec hn hn2).mono ?_
  rintro _ M ⟨rfl, h' | h'⟩
  · obtain ⟨v, hv, rfl⟩ := h'
    repeat decreasing_trivial_pre_omega
    refine ok_ifF (by simp [isN]) ?_
    repeat decreasing_trivial_pre_omega
    exact ⟨⟨v, rfl, hv⟩, by simp⟩
  · exact (h'.1 h).elim
theorem getD_append_lt {us : List Int} {x : Int} {i : Nat} (h : i < us.length) : (us ++ [x]).getD i 0 = us.getD i 0 := by simp [List.getD, List.getElem?_append_left h]
noncomputable def ovf (n : Int) : Nat → Int
  | 0 => 1
  | t + 1 => ovf n t * iv n (1 + (t : Nat)) % n
noncomputable def uN (n : Int) (row : List Int) : Nat → Int
  | 0 => row.getD 0 0 % n
  | t + 1 => (dN (t + 1) row).getD 0 0 * ovf n (t + 1) % n
theorem step_spec {n : Int} {row : List Int} {M : Mm} (hn : 2 ≤ n) (hn2 : n ≤ 1000000) (h1 : 1 ≤ row.length) (h6 : row.length ≤ 6) (hr : ∀ x ∈ row, 0 ≤ x ∧ x ≤ 1) (hi : ∀ j : Nat, 1 ≤ j → j < row.length → ∃ v, IsIv n j v) :
    Ok (F_step_numbers [.d (.int n), .d (.lst (row.map D.int))] M) fun w M' => (∃ us : List Int, w = .d (.lst (us.map D.int)) ∧ us = (List.range row.length).map (uN n row) ∧ us.length = row.length ∧ (∀ x ∈ us, 0 ≤ x ∧ x < n) ∧ ∀ i, i < row.length → Cg n (us.getD i 0 * fac i) ((dN i row).getD 0 0)) ∧ M' = M := by
  unfold F_step_numbers
  refine ok_fn rfl ?_
  unfold b_step_numbers
  have g0 : atI (row.map D.int) 0 = some (.int (row.getD 0 0)) := get_int (i := 0) (by omega)
  have b0 := hr (row.getD 0 0) (by simp [List.getD, List.getElem?_eq_getElem (show 0 < row.length by omega)])
  repeat decreasing_trivial_pre_omega
  refine ok_ixL g0 ?_
  repeat decreasing_trivial_pre_omega
  refine ⟨1, _, rfl, rfl, ⟨by decide, by simp only [in62, decide_eq_true_eq, List.length_map]; omega⟩, ?_⟩
  refine forD_inv (fun t L M' => ∃ (us : List Int) (ov : Int) (o5 : Option W), M' = M ++ [us.map D.int] ∧ us = (List.range (1 + t)).map (uN n row) ∧ ov = ovf n t ∧ us.length = 1 + t ∧ (∀ x ∈ us, 0 ≤ x ∧ x < n) ∧ (∀ i, i < 1 + t → Cg n (us.getD i 0 * fac i) ((dN i row).getD 0 0)) ∧ 0 ≤ ov ∧ ov < n ∧ Cg n (ov * fac t) 1 ∧ L = [some (.d (.int n)), some (.d (.lst (row.map D.int))), some (.ref M.length), some (.d (.lst ((dN t row).map D.int))), some (.d (.int ov)), o5])
    ⟨[row.getD 0 0 % n], 1, _, rfl, rfl, rfl, rfl, ?_, ?_, by omega, by omega, by simp only [fac]; exact Cg.rfl, rfl⟩ (fun i L M _ _ t e => by cases e) ?_ ?_
  · intro x hx
    rw [List.mem_singleton.mp hx]
    exact ⟨Int.emod_nonneg _ (by omega), Int.emod_lt_of_pos _ (by omega)⟩
  · intro i hi
    have : i = 0 := by omega
    subst this
    simp only [fac, dN, List.getD_cons_zero]
    exact (Cg.mod).mul Cg.rfl |>.trans (Cg.of_eq (by simp))
  · rintro t d _ _ hd ⟨us, ov, o5, rfl, eus, eov, ul, ur, uc, ov0, ov1, ovc, rfl⟩
    obtain ⟨ht, rfl⟩ := rngD_get hd
    have ht : t + 1 < row.length := by simp only [List.length_map] at ht; omega
    have dl : (dN t row).length = row.length - t := dN_length t row
    have dl1 : (dN (t + 1) row).length = row.length - (t + 1) := dN_length (t + 1) row
    have c1 : cut ((dN t row).map D.int) (some ((1 : Nat) : Int)) none = ((dN t row).map D.int).drop 1 := cut_hi (by simp; omega)
    repeat decreasing_trivial_pre_omega
    refine comp_inv (fun i acc L' M' => acc = ((dN (t + 1) row).take i).map D.int ∧ M' = M ++ [us.map D.int] ∧ ∃ a b, L' = [a, b]) ?_
    repeat decreasing_trivial_pre_omega
    refine ok_slL (xs := (dN t row).map D.int) (fun z h => by cases h) rfl ?_
    rw [show (some (1 : Int)) = some ((1 : Nat) : Int) from rfl, c1]
    refine ⟨_, _, rfl, rfl, ⟨rfl, rfl, none, none, rfl⟩, ?_, by simp [zipT_length]; omega, ?_, ?_⟩
    · rintro i acc L' M' hi ⟨rfl, rfl, _⟩
      exact ⟨rfl, (fun t e => by cases e), by simp; omega⟩
    · rintro i d acc _ _ hx ⟨rfl, rfl, a, b, rfl⟩
      obtain ⟨x, y, hx1, hx2, rfl⟩ := zipT_get hx
      simp only [List.getElem?_map, List.getElem?_drop, Option.map_eq_some_iff] at hx1 hx2
      obtain ⟨x, ex, rfl⟩ := hx1
      obtain ⟨y, ey, rfl⟩ := hx2
      rw [Nat.add_comm] at ey
      repeat decreasing_trivial_pre_omega
      refine ⟨_, _, rfl, rfl, ?_, rfl, _, _, rfl⟩
      have : (dN (t + 1) row)[i]? = some (y - x) := diff_get ex ey
      rw [List.take_add_one, this]
      simp
    rintro acc _ _ ⟨rfl, rfl, a, b, rfl⟩
    rw [List.take_of_length_le (by simp [zipT_length]; omega)]
    repeat decreasing_trivial_pre_omega
    refine (inverse_of_spec hn hn2 (by have := hi (1 + t) (by omega) (by omega); simpa using this)).mono ?_
    rintro _ _ ⟨⟨v, rfl, v0, v1, vv⟩, rfl⟩
    have gd : atI ((dN (t + 1) row).map D.int) 0 = some (.int ((dN (t + 1) row).getD 0 0)) := get_int (i := 0) (by omega)
    have bd := dN_bd hr (t + 1) ((dN (t + 1) row).getD 0 0) (by simp [List.getD, List.getElem?_eq_getElem (show 0 < (dN (t + 1) row).length by omega)])
    have p64 : (2 ^ (t + 1) : Int) ≤ 64 := by
      have : t = 0 ∨ t = 1 ∨ t = 2 ∨ t = 3 ∨ t = 4 := by omega
      rcases this with rfl | rfl | rfl | rfl | rfl <;> decide
    have m0 := Int.emod_nonneg (ov * v) (by omega : n ≠ 0)
    have m1 := Int.emod_lt_of_pos (ov * v) (by omega : 0 < n)
    repeat decreasing_trivial_pre_omega
    refine ok_ixL gd ?_
    repeat decreasing_trivial_pre_omega
    refine ok_append (xs := us.map D.int) (by simp) (by simp; omega) ?_
    repeat decreasing_trivial_pre_omega
    have cv : Cg n ((1 + (t : Int)) * v) 1 := Cg.of vv
    have cov : Cg n ((ov * v % n) * fac (t + 1)) 1 := by
      refine (Cg.mod.mul Cg.rfl).trans ((Cg.of_eq ?_).trans ((ovc.mul cv).trans (Cg.of_eq (by simp))))
      simp only [fac, Int.natCast_mul, Int.natCast_add, Int.natCast_one]
      grind
    have ev : iv n (1 + (t : Int)) = v := iv_of ⟨v0, v1, vv⟩
    have eo : ov * v % n = ovf n (t + 1) := by simp only [ovf]; rw [← eov, ev]
    refine ⟨us ++ [(dN (t + 1) row).getD 0 0 * (ov * v % n) % n], ov * v % n, _, by simp, ?_, eo, by simp [ul]; omega, ?_, ?_, m0, m1, cov, rfl⟩
    · rw [show 1 + (t + 1) = (1 + t) + 1 by omega, List.range_succ, List.map_append, ← eus, eo, Nat.add_comm 1 t]; rfl
    · intro x hx
      rcases List.mem_append.mp hx with hx | hx
      · exact ur x hx
      · rw [List.mem_singleton.mp hx]
        exact ⟨Int.emod_nonneg _ (by omega), Int.emod_lt_of_pos _ (by omega)⟩
    · intro i hi'
      by_cases h : i < 1 + t
      · rw [getD_append_lt (by omega)]; exact uc i h
      · have : i = t + 1 := by omega
        subst this
        have : (us ++ [(dN (t + 1) row).getD 0 0 * (ov * v % n) % n]).getD (t + 1) 0 = (dN (t + 1) row).getD 0 0 * (ov * v % n) % n := by
          simp [List.getD, List.getElem?_append_right (show us.length ≤ t + 1 by omega), show t + 1 - us.length = 0 by omega]
        rw [this]
        refine (Cg.mod.mul Cg.rfl).trans ((Cg.of_eq ?_).trans ((Cg.rfl.mul cov).trans (Cg.of_eq (by rw [Int.mul_one]))))
        rw [Int.mul_assoc]
  · rintro _ _ ⟨us, ov, o5, rfl, eus, eov, ul, ur, uc, ov0, ov1, ovc, rfl⟩
    simp only [rngD, List.length_map, List.length_range] at ul uc
    have e : 1 + ((row.length : Int) - 1).toNat = row.length := by omega
    rw [show (rngD 1 (((row.map D.int).length : Int) - 1).toNat).length = row.length - 1 by simp [rngD]] at eus
    rw [show 1 + (row.length - 1) = row.length by omega] at eus
    rw [e] at ul uc
    repeat decreasing_trivial_pre_omega
    show Ok (retc M.length (.ref M.length) (M ++ [us.map D.int])) _
    unfold retc
    simp only [Nat.lt_irrefl, if_false, List.getElem?_append_right (Nat.le_refl _), Nat.sub_self, List.getElem?_cons_zero]
    exact ok_ok ⟨⟨us, rfl, eus, ul, ur, uc⟩, by simp⟩
end K37

set_option Elab.async false
set_option linter.all false
set_option maxRecDepth 100000
set_option maxHeartbeats 4000000

namespace K37
open PySem L2 EV LS
local macro_rules | `(tactic| decreasing_trivial_pre_omega) => `(tactic| with_reducible first
  | refine ok_seq ?_ | refine ok_sAs ?_ | refine ok_gN ?_ | refine ok_e2 ?_ | refine ok_V (by with_unfolding_all exact rfl) ?_ | refine ok_C ?_ | refine ok_A ?_ | refine ok_aC ?_ | refine ok_aN ?_ | refine ok_tB ?_ | refine ok_sIf ?_ | refine ok_rt ?_ | refine ok_nil ?_ | refine ok_ex ?_ | refine ok_e1 ?_
  | refine ok_add ?_ | refine ok_ltA ?_ | refine ok_eqI ?_ | refine ok_neI ?_ | (refine ok_pI ?hz ?_; case hz => (with_unfolding_all first | exact rfl | decide | ((try simp only [decide_eq_true_eq, true_and, and_true, List.length_map, List.length_cons, List.length_nil, List.length_append, List.length_replicate]) <;> omega))) | (refine ok_mul ?hz ?_; case hz => (with_unfolding_all first | decide | ((try simp only [mulOk, decide_eq_true_eq, List.length_map, List.length_cons, List.length_nil, List.length_append, List.length_replicate]) <;> omega))) | refine ok_eqS ?_ | refine ok_neS ?_ | refine ok_eqB ?_ | refine ok_neB ?_ | refine ok_is ?_ | refine ok_isnot ?_ | refine ok_neg ?_ | refine ok_not ?_
  | refine ok_ixT (by with_unfolding_all exact rfl) ?_ | refine ok_ixL (by with_unfolding_all exact rfl) ?_ | refine ok_ixF (by with_unfolding_all exact rfl) ?_ | refine ok_ixR (by assumption) (by with_unfolding_all exact rfl) ?_ | refine ok_ixR (List.getElem?_set_self (by simpa only [List.length_set])) (by with_unfolding_all exact rfl) ?_
  | refine ok_tNot ?_ | refine ok_tAnd ?_ | refine ok_tOr ?_ | refine ok_tV ?_ | refine ok_tYes ?_ | refine ok_If ?_ | refine ok_And ?_ | refine ok_Or ?_
  | refine ok_mkT (by with_unfolding_all exact rfl) (by with_unfolding_all simp) ?_ | refine ok_mkL (by with_unfolding_all exact rfl) (by with_unfolding_all simp) ?_ | refine ok_mkR (by with_unfolding_all exact rfl) (by with_unfolding_all simp) ?_ | refine ok_ints ?_
  | refine ok_lenT ?_ | refine ok_lenL ?_ | refine ok_lenF ?_ | refine ok_lenR (by assumption) ?_ | refine ok_intB ?_ | refine ok_intI ?_ | refine ok_max ?_ | refine ok_min ?_
  | refine ok_M1 ?_ | refine ok_Sl ?_ | refine ok_SlR ?_ | refine ok_oNo ?_ | refine ok_oAt ?_ | refine ok_slT ?_ | refine ok_for ?_ | refine ok_iR1 ?_ | refine ok_iR2 ?_ | refine ok_iE (s := ⟨[], none⟩) ?_ | refine ok_iRv ?_ | refine ok_iZip ?_ | refine ok_iDown ?_ | refine ok_iEnum ?_ | refine ok_augS ?_ | refine ok_pick ?_ | refine ok_trim ?_ | refine ok_forW ?_ | refine ok_sPar ?_ | refine ok_par3 ?_ | refine ok_gS ?_ | refine ok_gsC ?_ | refine ok_gsN ?_ | refine ok_bk ?_ | refine ok_ct ?_
  | refine ok_isi (by with_unfolding_all exact rfl) ?_ | refine ok_retD ?_ | refine ok_gT (by with_unfolding_all exact rfl) ?_ | refine ok_gTL (by with_unfolding_all exact rfl) ?_ | refine ⟨_, rfl, ?_⟩ | refine ⟨_, _, _, _, rfl, rfl, by assumption, by with_unfolding_all exact rfl, ?_⟩ | refine ⟨_, _, _, _, rfl, rfl, List.getElem?_set_self (by simpa only [List.length_set]), by with_unfolding_all exact rfl, ?_⟩
  | refine ok_ifT (by with_unfolding_all decide) ?_ | refine ok_ifF (by with_unfolding_all decide) ?_ | refine ⟨fun h => absurd h (by with_unfolding_all decide), fun _ => ?_⟩ | refine ⟨fun _ => ?_, fun h => absurd h (by with_unfolding_all decide)⟩ | refine ⟨_, _, rfl, ?_⟩ | refine ⟨_, _, _, rfl, ?_⟩)
def b2i (b : Bool) : Int := if b then 1 else 0
def tot (e : E) (r : List E) : E := r.foldl (fun t p => .op .sum t p) e
theorem tot_wf {G : Nat} : ∀ {r : List E} {e : E}, wf G e → (∀ x ∈ r, wf G x) → wf G (tot e r)
  | [], _, h, _ => h
  | x :: r, e, h, hr => tot_wf (r := r) (e := .op .sum e x) ⟨h, hr x (by simp)⟩ fun y hy => hr y (by simp [hy])
theorem tot_dp {D : Nat} : ∀ {r : List E} {e : E} {k : Nat}, dp e ≤ D + k → (∀ x ∈ r, dp x ≤ D) → dp (tot e r) ≤ D + k + r.length
  | [], _, _, h, _ => by simpa [tot] using h
  | x :: r, e, k, h, hr => by
    have := tot_dp (r := r) (e := .op .sum e x) (k := k + 1) (by have := hr x (by simp); simp only [dp]; omega) fun y hy => hr y (by simp [hy])
    simp only [List.length_cons]
    have e : tot e (x :: r) = tot (.op .sum e x) r := rfl
    rw [e]
    omega
def cnt : List Bool → Nat
  | [] => 0
  | b :: r => (if b then 1 else 0) + cnt r
theorem tot_val {n : Int} {gs : List Int} : ∀ {r : List E} {e : E} {c : Int} {bs : List Bool}, Cg n (val n gs e) c → r.map (val n gs) = bs.map b2i → Cg n (val n gs (tot e r)) (c + cnt bs)
  | [], e, c, bs, h, hb => by
    cases bs with
    | nil => simpa [tot, cnt] using h
    | cons b bs => simp at hb
  | x :: r, e, c, bs, h, hb => by
    cases bs with
    | nil => simp at hb
    | cons b bs =>
      simp only [List.map_cons, List.cons.injEq] at hb
      have := tot_val (r := r) (e := .op .sum e x) (c := c + b2i b) (bs := bs) (by
        simp only [val, Wd.ev]
        exact Cg.modT (h.add (Cg.of_eq hb.1))) hb.2
      have e1 : tot e (x :: r) = tot (.op .sum e x) r := rfl
      rw [e1]
      refine this.trans (Cg.of_eq ?_)
      cases b <;> simp [b2i, cnt] <;> omega
def tld (t : E) (us : Nat → Int) (m : Nat) : Nat → E
  | 0 => .num (us m)
  | j + 1 => .op .sum (.num (us (m - 1 - j))) (.op .times (.op .less t (.num ((m - 1 - j : Nat) : Int))) (tld t us m j))
theorem tld_val {n T : Int} {gs : List Int} {t : E} {us : Nat → Int} {m : Nat} (h : Cg n (val n gs t) T) : ∀ j : Nat, Cg n (val n gs (tld t us m j)) (horn n T us m j)
  | 0 => by simp only [tld, val, horn]; exact Cg.mod
  | j + 1 => by
    simp only [tld, val, horn, Wd.ev]
    exact Cg.modT (Cg.mod.add (Cg.modT ((Cg.modT (h.sub Cg.mod)).mul (tld_val h j))))
theorem tld_wf {G : Nat} {t : E} {us : Nat → Int} {m : Nat} (ht : wf G t) (hu : ∀ i, i ≤ m → 0 ≤ us i ∧ us i < 1000000) (hm : m < 1000) : ∀ j : Nat, wf G (tld t us m j)
  | 0 => hu m (Nat.le_refl _)
  | j + 1 => ⟨hu _ (by omega), ⟨ht, ⟨by omega, by omega⟩⟩, tld_wf ht hu hm j⟩
theorem tld_dp {t : E} {us : Nat → Int} {m : Nat} : ∀ j : Nat, dp (tld t us m j) ≤ dp t + 1 + 2 * j
  | 0 => by simp [tld, dp]
  | j + 1 => by have := tld_dp (t := t) (us := us) (m := m) j; simp only [tld, dp]; omega
noncomputable def rowK (k : Int) (m : Nat) : List Int := (List.range (m + 1)).map fun (j : Nat) => if (j : Int) ≥ k then (1 : Int) else 0
noncomputable def lst_e (n k : Int) (e : E) (r : List E) : E := tld (tot e r) (uN n (rowK k (r.length + 1))) (r.length + 1) (r.length + 1)
theorem least_spec {n k : Int} {e0 : E} {r : List E} (hn : 2 ≤ n) (hn2 : n ≤ 1000000) (h5 : r.length ≤ 4) (hi : ∀ j : Nat, 1 ≤ j → j ≤ r.length + 1 → ∃ v, IsIv n j v) (k0 : 0 ≤ k) (k6 : k ≤ 6) {M : Mm} :
    Ok (F_said_least [.d (.int n), .d (.int k), .d (.lst ((e0 :: r).map enc))] M) fun w M' => (w = .d (enc (lst_e n k e0 r)) ∧ (∀ i, i ≤ r.length + 1 → 0 ≤ uN n (rowK k (r.length + 1)) i ∧ uN n (rowK k (r.length + 1)) i < n) ∧ ∀ i, i ≤ r.length + 1 → Cg n (uN n (rowK k (r.length + 1)) i * fac i) ((dN i (rowK k (r.length + 1))).getD 0 0)) ∧ M' = M := by
  have rl : (rowK k (r.length + 1)).length = r.length + 2 := by simp [rowK]
  unfold F_said_least
  refine ok_fn rfl ?_
  unfold b_said_least
  repeat decreasing_trivial_pre_omega
  refine ok_ixL (at0 _ _) ?_
  repeat decreasing_trivial_pre_omega
  refine ok_slL (xs := (e0 :: r).map enc) (x := .d (.lst ((e0 :: r).map enc))) (fun z h => by cases h) rfl ?_
  have c1 : cut ((e0 :: r).map enc) (some ((1 : Nat) : Int)) none = r.map enc := by rw [cut_hi (by simp)]; rfl
  rw [show (some (1 : Int)) = some ((1 : Nat) : Int) from rfl, c1]
  repeat decreasing_trivial_pre_omega
  refine forD_inv (fun t L M' => M' = M ∧ ∃ o5, L = [some (.d (.int n)), some (.d (.int k)), some (.d (.lst ((e0 :: r).map enc))), some (.d (.int ((e0 :: r).map enc).length)), some (.d (enc (tot e0 (r.take t)))), o5, none, none, none]) ⟨rfl, _, rfl⟩ (fun i L M _ _ t e => by cases e) ?_ ?_
  · rintro t d _ M hd ⟨rfl, o5, rfl⟩
    simp only [List.getElem?_map, Option.map_eq_some_iff] at hd
    obtain ⟨x, ex, rfl⟩ := hd
    repeat decreasing_trivial_pre_omega
    have : tot e0 (r.take (t + 1)) = .op .sum (tot e0 (r.take t)) x := by rw [List.take_add_one, ex]; simp [tot]
    rw [this]
    exact ⟨rfl, _, rfl⟩
  rintro _ M ⟨rfl, o5, rfl⟩
  rw [show r.take { ds := r.map enc, k := none : Src }.ds.length = r by simp]
  repeat decreasing_trivial_pre_omega
  refine comp_inv (fun i acc L' M' => acc = (((List.range i).map fun (j : Nat) => if (j : Int) ≥ k then (1 : Int) else 0)).map D.int ∧ M' = M ∧ ∃ a, L' = [a, some (.d (.int k))]) ?_
  repeat decreasing_trivial_pre_omega
  refine ⟨by simp only [in62, decide_eq_true_eq, List.length_map, List.length_cons]; omega, ⟨rfl, rfl, none, rfl⟩, ?_, by simp only [rngD, List.length_map, List.length_range, List.length_cons]; omega, ?_, ?_⟩
  · rintro i acc L' M' hi ⟨rfl, rfl, _⟩
    exact ⟨rfl, (fun t e => by cases e), by simp⟩
  · rintro i d acc _ M hx ⟨rfl, rfl, a, rfl⟩
    obtain ⟨_, rfl⟩ := rngD_get hx
    repeat decreasing_trivial_pre_omega
    rw [show (0 + (i : Int)) = ((i : Nat) : Int) by omega]
    refine ok_ifd (fun h => ?_) (fun h => ?_)
    · repeat decreasing_trivial_pre_omega
      exact ⟨_, _, rfl, rfl, by rw [List.range_succ]; simp [h], rfl, _, rfl⟩
    · repeat decreasing_trivial_pre_omega
      exact ⟨_, _, rfl, rfl, by rw [List.range_succ]; simp [h], rfl, _, rfl⟩
  rintro acc _ M ⟨rfl, rfl, a, rfl⟩
  rw [show (rngD 0 ((((e0 :: r).map enc).length : Int) + 1).toNat).length = r.length + 2 by simp [rngD]; omega]
  repeat decreasing_trivial_pre_omega
  refine (step_spec (row := rowK k (r.length + 1)) hn hn2 (by omega) (by omega) ?_ ?_).mono ?_
  · intro x hx
    obtain ⟨j, _, rfl⟩ := List.mem_map.mp hx
    split <;> omega
  · intro j h1 h2
    exact hi j h1 (by omega)
  rintro _ M ⟨⟨us, rfl, eus, ul, ur, uc⟩, rfl⟩
  have ug : ∀ i, i ≤ r.length + 1 → us.getD i 0 = uN n (rowK k (r.length + 1)) i := by
    intro i hi
    rw [eus, rl]
    simp [List.getD, List.getElem?_range (show i < r.length + 2 by omega)]
  have um : ∀ i, i ≤ r.length + 1 → us.getD i 0 ∈ us := by
    intro i hi
    simp [List.getD, List.getElem?_eq_getElem (show i < us.length by omega)]
  have gm : ∀ i : Nat, i ≤ r.length + 1 → atI (us.map D.int) (i : Int) = some (.int (uN n (rowK k (r.length + 1)) i)) := by
    intro i hi
    rw [← ug i hi]
    exact get_int (by omega)
  have hlen : ((e0 :: r).map enc).length = r.length + 1 := by simp
  rw [hlen]
  repeat decreasing_trivial_pre_omega
  refine ok_ixL (gm (r.length + 1) (Nat.le_refl _)) ?_
  repeat decreasing_trivial_pre_omega
  refine ⟨by omega, by omega, ?_⟩
  rw [Int.toNat_natCast]
  refine forD_inv (fun t L M' => M' = M ∧ ∃ o8, L = [some (.d (.int n)), some (.d (.int k)), some (.d (.lst ((e0 :: r).map enc))), some (.d (.int (r.length + 1 : Nat))), some (.d (enc (tot e0 r))), o5, some (.d (.lst (us.map D.int))), some (.d (enc (tld (tot e0 r) (uN n (rowK k (r.length + 1))) (r.length + 1) t))), o8]) ⟨rfl, _, rfl⟩ (fun i L M _ _ t e => by cases e) ?_ ?_
  · rintro t d _ M hd ⟨rfl, o8, rfl⟩
    obtain ⟨ht, rfl⟩ := downD_get hd
    rw [show ((r.length + 1 : Nat) : Int) - 1 - (t : Nat) = ((r.length + 1 - 1 - t : Nat) : Int) by omega]
    repeat decreasing_trivial_pre_omega
    refine ok_ixL (gm (r.length + 1 - 1 - t) (by omega)) ?_
    repeat decreasing_trivial_pre_omega
    exact ⟨rfl, _, rfl⟩
  · rintro _ M ⟨rfl, o8, rfl⟩
    rw [show (Src.ds { ds := downD (r.length + 1), k := none : Src }).length = r.length + 1 from downD_length]
    repeat decreasing_trivial_pre_omega
    refine ⟨⟨rfl, fun i hi => ?_, fun i hi => ?_⟩, by simp⟩
    · rw [← ug i hi]; exact ur _ (um i hi)
    · rw [← ug i hi]; exact uc i (by omega)
end K37

set_option Elab.async false
set_option linter.all false
set_option maxRecDepth 100000
set_option maxHeartbeats 4000000

namespace K37
open PySem L2 EV LS
local macro_rules | `(tactic| decreasing_trivial_pre_omega) => `(tactic| with_reducible first
  | refine ok_seq ?_ | refine ok_sAs ?_ | refine ok_gN ?_ | refine ok_e2 ?_ | refine ok_V (by with_unfolding_all exact rfl) ?_ | refine ok_C ?_ | refine ok_A ?_ | refine ok_aC ?_ | refine ok_aN ?_ | refine ok_tB ?_ | refine ok_sIf ?_ | refine ok_rt ?_ | refine ok_nil ?_ | refine ok_ex ?_ | refine ok_e1 ?_
  | refine ok_add ?_ | refine ok_ltA ?_ | refine ok_eqI ?_ | refine ok_neI ?_ | (refine ok_pI ?hz ?_; case hz => (with_unfolding_all first | exact rfl | decide | ((try simp only [decide_eq_true_eq, true_and, and_true, List.length_map, List.length_cons, List.length_nil, List.length_append, List.length_replicate]) <;> omega))) | (refine ok_mul ?hz ?_; case hz => (with_unfolding_all first | decide | ((try simp only [mulOk, decide_eq_true_eq, List.length_map, List.length_cons, List.length_nil, List.length_append, List.length_replicate]) <;> omega))) | refine ok_eqS ?_ | refine ok_neS ?_ | refine ok_eqB ?_ | refine ok_neB ?_ | refine ok_is ?_ | refine ok_isnot ?_ | refine ok_neg ?_ | refine ok_not ?_
  | refine ok_ixT (by with_unfolding_all exact rfl) ?_ | refine ok_ixL (by with_unfolding_all exact rfl) ?_ | refine ok_ixF (by with_unfolding_all exact rfl) ?_ | refine ok_ixR (by assumption) (by with_unfolding_all exact rfl) ?_ | refine ok_ixR (List.getElem?_set_self (by simpa only [List.length_set])) (by with_unfolding_all exact rfl) ?_
  | refine ok_tNot ?_ | refine ok_tAnd ?_ | refine ok_tOr ?_ | refine ok_tV ?_ | refine ok_tYes ?_ | refine ok_If ?_ | refine ok_And ?_ | refine ok_Or ?_
  | refine ok_mkT (by with_unfolding_all exact rfl) (by with_unfolding_all simp) ?_ | refine ok_mkL (by with_unfolding_all exact rfl) (by with_unfolding_all simp) ?_ | refine ok_mkR (by with_unfolding_all exact rfl) (by with_unfolding_all simp) ?_ | refine ok_ints ?_
  | refine ok_lenT ?_ | refine ok_lenL ?_ | refine ok_lenF ?_ | refine ok_lenR (by assumption) ?_ | refine ok_intB ?_ | refine ok_intI ?_ | refine ok_max ?_ | refine ok_min ?_
  | refine ok_M1 ?_ | refine ok_Sl ?_ | refine ok_SlR ?_ | refine ok_oNo ?_ | refine ok_oAt ?_ | refine ok_slT ?_ | refine ok_for ?_ | refine ok_iR1 ?_ | refine ok_iR2 ?_ | refine ok_iE (s := ⟨[], none⟩) ?_ | refine ok_iRv ?_ | refine ok_iZip ?_ | refine ok_iDown ?_ | refine ok_iEnum ?_ | refine ok_augS ?_ | refine ok_pick ?_ | refine ok_trim ?_ | refine ok_forW ?_ | refine ok_sPar ?_ | refine ok_par3 ?_ | refine ok_gS ?_ | refine ok_gsC ?_ | refine ok_gsN ?_ | refine ok_bk ?_ | refine ok_ct ?_
  | refine ok_isi (by with_unfolding_all exact rfl) ?_ | refine ok_retD ?_ | refine ok_gT (by with_unfolding_all exact rfl) ?_ | refine ok_gTL (by with_unfolding_all exact rfl) ?_ | refine ⟨_, rfl, ?_⟩ | refine ⟨_, _, _, _, rfl, rfl, by assumption, by with_unfolding_all exact rfl, ?_⟩ | refine ⟨_, _, _, _, rfl, rfl, List.getElem?_set_self (by simpa only [List.length_set]), by with_unfolding_all exact rfl, ?_⟩
  | refine ok_ifT (by with_unfolding_all decide) ?_ | refine ok_ifF (by with_unfolding_all decide) ?_ | refine ⟨fun h => absurd h (by with_unfolding_all decide), fun _ => ?_⟩ | refine ⟨fun _ => ?_, fun h => absurd h (by with_unfolding_all decide)⟩ | refine ⟨_, _, rfl, ?_⟩ | refine ⟨_, _, _, rfl, ?_⟩)
def Ans (G : Nat) (ns : List Int) : Prop := ns.length = G ∧ ∀ x ∈ ns, x = 0 ∨ x = 1
def Hs (k : Nat) (d : D) (ns : List Int) (b : Bool) : Prop := ∀ fuel, k < fuel → ∀ M : Mm, Ok (F_holds fuel [.d d, .d (.tup (ns.map D.int))] M) (fun w M' => w = .d (.bl b) ∧ M' = M) ∧ Ok (F_l_holds fuel [.d d, .d (.tup (ns.map D.int))] M) (fun w M' => w = .d (.bl b) ∧ M' = M)
def Sn (G k : Nat) (n : Int) (d : D) (e : E) : Prop := wf G e ∧ dp e ≤ 3 * k ∧ (∀ fuel, k < fuel → ∀ M : Mm, Ok (F_said fuel [.d (.int n), .d d] M) fun w M' => w = .d (enc e) ∧ M' = M) ∧ ∀ ns, Ans G ns → ∃ b, Hs k d ns b ∧ val n ns e = b2i b
def Ms (k : Nat) (d : D) (m : Nat) : Prop := 1 ≤ m ∧ m ≤ 5 ∧ ∀ fuel, k < fuel → ∀ M : Mm, Ok (F_l_most fuel [.d d] M) fun w M' => w = .d (.int m) ∧ M' = M
def Al (G k : Nat) (d : D) : Prop := ∃ m, Ms k d m ∧ ∀ n, 2 ≤ n → n ≤ 1000000 → (∀ j : Nat, 1 ≤ j → j ≤ m → ∃ v, IsIv n j v) → ∃ e, Sn G k n d e
theorem b2i_r {n : Int} (hn : 2 ≤ n) (b : Bool) : 0 ≤ b2i b ∧ b2i b < n := by cases b <;> simp [b2i] <;> omega
theorem cg_eq {n a b : Int} (h : Cg n a b) (a0 : 0 ≤ a) (a1 : a < n) (b0 : 0 ≤ b) (b1 : b < n) : a = b := by
  have := h.emod
  rwa [Int.emod_eq_of_lt a0 a1, Int.emod_eq_of_lt b0 b1] at this
theorem most_comp {F : Fn} {xs : List D} {mf : D → Nat} {fi : FI} {M : Mm} {Q : W → Mm → Prop} {L : Lc} {js : List (Option Nat)} (hz : xs.length ≤ 5) (e : outL js L = [none]) (hF : ∀ x ∈ xs, ∀ M : Mm, Ok (F [.d x] M) fun w M' => w = .d (.int (mf x)) ∧ M' = M)
    (hi : Ok (fi L M) fun s M' => s = ⟨xs, none⟩ ∧ M' = M) (q : Q (.d (.lst ((xs.map fun x => (mf x : Int)).map D.int))) M) : Ok (eComp js fi (gN 0) EV.tYes (eA F (aCons (eV 0) aNil)) L M) Q := by
  refine comp_inv (fun i acc L' M' => acc = ((xs.take i).map fun x => (mf x : Int)).map D.int ∧ M' = M ∧ ∃ a, L' = [a]) ?_
  refine hi.mono ?_
  rintro _ M ⟨rfl, rfl⟩
  refine ⟨⟨rfl, rfl, none, e⟩, ?_, by simp; omega, ?_, ?_⟩
  · rintro i acc L' M' hi ⟨rfl, rfl, _⟩
    exact ⟨rfl, (fun t e => by cases e), by simp; omega⟩
  · rintro i d acc _ M hd ⟨rfl, rfl, a, rfl⟩
    have hm : d ∈ xs := List.mem_of_getElem? hd
    have hi : xs.take (i + 1) = xs.take i ++ [d] := by rw [List.take_add_one, show xs[i]? = some d from hd]; rfl
    repeat decreasing_trivial_pre_omega
    refine (hF d hm _).mono ?_
    rintro _ M ⟨rfl, rfl⟩
    exact ⟨_, _, rfl, rfl, by rw [hi]; simp, rfl, _, rfl⟩
  · rintro acc L' M ⟨rfl, rfl, _⟩
    simpa using q
theorem said_comp {F : Fn} {xs : List D} {ef : D → E} {n : Int} {fi : FI} {M : Mm} {Q : W → Mm → Prop} {L : Lc} {js : List (Option Nat)} (hz : xs.length ≤ 5) (e : outL js L = [none, some (.d (.int n))]) (hF : ∀ x ∈ xs, ∀ M : Mm, Ok (F [.d (.int n), .d x] M) fun w M' => w = .d (enc (ef x)) ∧ M' = M)
    (hi : Ok (fi L M) fun s M' => s = ⟨xs, none⟩ ∧ M' = M) (q : Q (.d (.lst ((xs.map ef).map enc))) M) : Ok (eComp js fi (gN 0) EV.tYes (eA F (aCons (eV 1) (aCons (eV 0) aNil))) L M) Q := by
  refine comp_inv (fun i acc L' M' => acc = ((xs.take i).map ef).map enc ∧ M' = M ∧ ∃ a, L' = [a, some (.d (.int n))]) ?_
  refine hi.mono ?_
  rintro _ M ⟨rfl, rfl⟩
  refine ⟨⟨rfl, rfl, none, e⟩, ?_, by simp; omega, ?_, ?_⟩
  · rintro i acc L' M' hi ⟨rfl, rfl, _⟩
    exact ⟨rfl, (fun t e => by cases e), by simp; omega⟩
  · rintro i d acc _ M hd ⟨rfl, rfl, a, rfl⟩
    have hm : d ∈ xs := List.mem_of_getElem? hd
    have hi : xs.take (i + 1) = xs.take i ++ [d] := by rw [List.take_add_one, show xs[i]? = some d from hd]; rfl
    repeat decreasing_trivial_pre_omega
    refine (hF d hm _).mono ?_
    rintro _ M ⟨rfl, rfl⟩
    exact ⟨_, _, rfl, rfl, by rw [hi]; simp, rfl, _, rfl⟩
  · rintro acc L' M ⟨rfl, rfl, _⟩
    simpa using q
theorem cnt_filter {xs : List D} {bf : D → Bool} : cnt (xs.map bf) = (xs.filter bf).length := by
  induction xs with
  | nil => rfl
  | cons x r ih => simp only [List.map_cons, cnt, ih, List.filter_cons]; cases bf x <;> simp <;> omega
theorem cnt_le {bs : List Bool} : cnt bs ≤ bs.length := by
  induction bs with
  | nil => simp [cnt]
  | cons b r ih => simp only [cnt, List.length_cons]; split <;> omega
theorem lst_val {n m : Int} {e0 : E} {r : List E} {ns : List Int} {b0 : Bool} {bs : List Bool} (hn : 2 ≤ n) (hu : ∀ i, i ≤ r.length + 1 → Cg n (uN n (rowK m (r.length + 1)) i * fac i) ((dN i (rowK m (r.length + 1))).getD 0 0)) (h0 : val n ns e0 = b2i b0) (hr : r.map (val n ns) = bs.map b2i) :
    val n ns (lst_e n m e0 r) = b2i (decide (m ≤ (cnt (b0 :: bs) : Nat))) := by
  have hl : r.length = bs.length := by have := congrArg List.length hr; simpa using this
  have t1 := tot_val (c := b2i b0) (Cg.of_eq h0) hr
  have t2 : Cg n (val n ns (tot e0 r)) ((cnt (b0 :: bs) : Nat) : Int) := t1.trans (Cg.of_eq (by cases b0 <;> simp [b2i, cnt]))
  have cl : cnt (b0 :: bs) ≤ r.length + 1 := by have := cnt_le (bs := b0 :: bs); simp at this; omega
  have h1 := tld_val (us := uN n (rowK m (r.length + 1))) (m := r.length + 1) t2 (r.length + 1)
  have h2 := horn_row (n := n) (row := rowK m (r.length + 1)) cl (by simp [rowK]) hu
  have h3 : (rowK m (r.length + 1)).getD (cnt (b0 :: bs)) 0 = b2i (decide (m ≤ (cnt (b0 :: bs) : Nat))) := by
    simp only [rowK, List.getD, List.getElem?_map, List.getElem?_range (show cnt (b0 :: bs) < r.length + 1 + 1 by omega), Option.map_some, Option.getD_some, b2i]
    by_cases h : m ≤ (cnt (b0 :: bs) : Nat) <;> simp [h] <;> omega
  rw [h3] at h2
  obtain ⟨c0, c1⟩ := b2i_r hn (decide (m ≤ (cnt (b0 :: bs) : Nat)))
  refine cg_eq (h1.trans h2) ?_ ?_ c0 c1
  · simp only [lst_e, tld, val, Wd.ev]; exact Int.emod_nonneg _ (by omega)
  · simp only [lst_e, tld, val, Wd.ev]; exact Int.emod_lt_of_pos _ (by omega)
end K37

set_option Elab.async false
set_option linter.all false
set_option maxRecDepth 100000
set_option maxHeartbeats 4000000

namespace K37
open PySem L2 EV LS
local macro_rules | `(tactic| decreasing_trivial_pre_omega) => `(tactic| with_reducible first
  | refine ok_seq ?_ | refine ok_sAs ?_ | refine ok_gN ?_ | refine ok_e2 ?_ | refine ok_V (by with_unfolding_all exact rfl) ?_ | refine ok_C ?_ | refine ok_A ?_ | refine ok_aC ?_ | refine ok_aN ?_ | refine ok_tB ?_ | refine ok_sIf ?_ | refine ok_rt ?_ | refine ok_nil ?_ | refine ok_ex ?_ | refine ok_e1 ?_
  | refine ok_add ?_ | refine ok_ltA ?_ | refine ok_eqI ?_ | refine ok_neI ?_ | (refine ok_pI ?hz ?_; case hz => (with_unfolding_all first | exact rfl | decide | ((try simp only [decide_eq_true_eq, true_and, and_true, List.length_map, List.length_cons, List.length_nil, List.length_append, List.length_replicate]) <;> omega))) | (refine ok_mul ?hz ?_; case hz => (with_unfolding_all first | decide | ((try simp only [mulOk, decide_eq_true_eq, List.length_map, List.length_cons, List.length_nil, List.length_append, List.length_replicate]) <;> omega))) | refine ok_eqS ?_ | refine ok_neS ?_ | refine ok_eqB ?_ | refine ok_neB ?_ | refine ok_is ?_ | refine ok_isnot ?_ | refine ok_neg ?_ | refine ok_not ?_
  | refine ok_ixT (by with_unfolding_all exact rfl) ?_ | refine ok_ixL (by with_unfolding_all exact rfl) ?_ | refine ok_ixF (by with_unfolding_all exact rfl) ?_ | refine ok_ixR (by assumption) (by with_unfolding_all exact rfl) ?_ | refine ok_ixR (List.getElem?_set_self (by simpa only [List.length_set])) (by with_unfolding_all exact rfl) ?_
  | refine ok_tNot ?_ | refine ok_tAnd ?_ | refine ok_tOr ?_ | refine ok_tV ?_ | refine ok_tYes ?_ | refine ok_If ?_ | refine ok_And ?_ | refine ok_Or ?_
  | refine ok_mkT (by with_unfolding_all exact rfl) (by with_unfolding_all simp) ?_ | refine ok_mkL (by with_unfolding_all exact rfl) (by with_unfolding_all simp) ?_ | refine ok_mkR (by with_unfolding_all exact rfl) (by with_unfolding_all simp) ?_ | refine ok_ints ?_
  | refine ok_lenT ?_ | refine ok_lenL ?_ | refine ok_lenF ?_ | refine ok_lenR (by assumption) ?_ | refine ok_intB ?_ | refine ok_intI ?_ | refine ok_max ?_ | refine ok_min ?_
  | refine ok_M1 ?_ | refine ok_Sl ?_ | refine ok_SlR ?_ | refine ok_oNo ?_ | refine ok_oAt ?_ | refine ok_slT ?_ | refine ok_for ?_ | refine ok_iR1 ?_ | refine ok_iR2 ?_ | refine ok_iE (s := ⟨[], none⟩) ?_ | refine ok_iRv ?_ | refine ok_iZip ?_ | refine ok_iDown ?_ | refine ok_iEnum ?_ | refine ok_augS ?_ | refine ok_pick ?_ | refine ok_trim ?_ | refine ok_forW ?_ | refine ok_sPar ?_ | refine ok_par3 ?_ | refine ok_gS ?_ | refine ok_gsC ?_ | refine ok_gsN ?_ | refine ok_bk ?_ | refine ok_ct ?_
  | refine ok_isi (by with_unfolding_all exact rfl) ?_ | refine ok_retD ?_ | refine ok_gT (by with_unfolding_all exact rfl) ?_ | refine ok_gTL (by with_unfolding_all exact rfl) ?_ | refine ⟨_, rfl, ?_⟩ | refine ⟨_, _, _, _, rfl, rfl, by assumption, by with_unfolding_all exact rfl, ?_⟩ | refine ⟨_, _, _, _, rfl, rfl, List.getElem?_set_self (by simpa only [List.length_set]), by with_unfolding_all exact rfl, ?_⟩
  | refine ok_ifT (by with_unfolding_all decide) ?_ | refine ok_ifF (by with_unfolding_all decide) ?_ | refine ⟨fun h => absurd h (by with_unfolding_all decide), fun _ => ?_⟩ | refine ⟨fun _ => ?_, fun h => absurd h (by with_unfolding_all decide)⟩ | refine ⟨_, _, rfl, ?_⟩ | refine ⟨_, _, _, rfl, ?_⟩)
theorem all_spec {G k : Nat} {d : D} (h : IsS (G : Int) k d) : Al G k d := by
  induction h with
  | yes k i l u =>
    obtain ⟨i, rfl⟩ : ∃ j : Nat, i = j := ⟨i.toNat, by omega⟩
    have hi : i < G := by omega
    refine ⟨1, ⟨by omega, by omega, fun fuel hf M => ?_⟩, fun n hn hn2 _ => ⟨.giv i, hi, by simp [dp], fun fuel hf M => ?_, fun ns ⟨hl, hb⟩ => ?_⟩⟩
    · obtain ⟨f, rfl⟩ : ∃ f, fuel = f + 1 := ⟨fuel - 1, by omega⟩
      unfold F_l_most
      refine ok_fn rfl ?_
      unfold b_l_most
      repeat decreasing_trivial_pre_omega
      exact ⟨rfl, by simp⟩
    · obtain ⟨f, rfl⟩ : ∃ f, fuel = f + 1 := ⟨fuel - 1, by omega⟩
      unfold F_said
      refine ok_fn rfl ?_
      unfold b_said
      repeat decreasing_trivial_pre_omega
      exact ⟨rfl, by simp⟩
    · have em := get_int (cs := ns) (i := i) (by omega)
      refine ⟨decide (ns.getD i 0 = 1), fun fuel hf M => ?_, ?_⟩
      · obtain ⟨f, rfl⟩ : ∃ f, fuel = f + 1 := ⟨fuel - 1, by omega⟩
        unfold F_holds F_l_holds
        constructor
        · refine ok_fn rfl ?_
          unfold b_holds
          repeat decreasing_trivial_pre_omega
          refine ok_ixT em ?_
          repeat decreasing_trivial_pre_omega
          exact ⟨rfl, by simp⟩
        · refine ok_fn rfl ?_
          unfold b_l_holds
          repeat decreasing_trivial_pre_omega
          refine ok_ixT em ?_
          repeat decreasing_trivial_pre_omega
          exact ⟨rfl, by simp⟩
      · simp only [val]
        have : ns.getD i 0 ∈ ns := by simp [List.getD, List.getElem?_eq_getElem (show i < ns.length by omega)]
        rcases hb _ this with e | e <;> rw [e] <;> rfl
  | nt k a ha ih =>
    obtain ⟨m, ⟨m1, m5, hm⟩, hs⟩ := ih
    refine ⟨m, ⟨m1, m5, fun fuel hf M => ?_⟩, fun n hn hn2 hi => ?_⟩
    · obtain ⟨f, rfl⟩ : ∃ f, fuel = f + 1 := ⟨fuel - 1, by omega⟩
      unfold F_l_most
      refine ok_fn rfl ?_
      unfold b_l_most
      repeat decreasing_trivial_pre_omega
      refine most_comp (xs := [a]) (mf := fun _ => m) (by simp) rfl (fun x hx M => by rw [List.mem_singleton.mp hx]; exact hm f (by omega) M) ?_ ?_
      · repeat decreasing_trivial_pre_omega
        exact ⟨rfl, rfl⟩
      · repeat decreasing_trivial_pre_omega
        refine ok_maxL (ns := [(m : Int)]) rfl rfl (by simp) ?_
        repeat decreasing_trivial_pre_omega
        exact ⟨rfl, by simp⟩
    · obtain ⟨e, ew, ed, es, eh⟩ := hs n hn hn2 hi
      refine ⟨.op .less (.num 1) e, ⟨⟨by omega, by omega⟩, ew⟩, by simp only [dp]; omega, fun fuel hf M => ?_, fun ns an => ?_⟩
      · obtain ⟨f, rfl⟩ : ∃ f, fuel = f + 1 := ⟨fuel - 1, by omega⟩
        unfold F_said
        refine ok_fn rfl ?_
        unfold b_said
        repeat decreasing_trivial_pre_omega
        refine (es f (by omega) _).mono ?_
        rintro _ M ⟨rfl, rfl⟩
        repeat decreasing_trivial_pre_omega
        exact ⟨rfl, by simp⟩
      · obtain ⟨b, hb, hv⟩ := eh ns an
        refine ⟨!b, fun fuel hf M => ?_, ?_⟩
        · obtain ⟨f, rfl⟩ : ∃ f, fuel = f + 1 := ⟨fuel - 1, by omega⟩
          unfold F_holds F_l_holds
          constructor
          · refine ok_fn rfl ?_
            unfold b_holds
            repeat decreasing_trivial_pre_omega
            refine (hb f (by omega) _).1.mono ?_
            rintro _ _ ⟨rfl, rfl⟩
            repeat decreasing_trivial_pre_omega
            exact ⟨rfl, by simp⟩
          · refine ok_fn rfl ?_
            unfold b_l_holds
            repeat decreasing_trivial_pre_omega
            refine (hb f (by omega) _).2.mono ?_
            rintro _ _ ⟨rfl, rfl⟩
            repeat decreasing_trivial_pre_omega
            exact ⟨rfl, by simp⟩
        · simp only [val, Wd.ev, hv]
          rw [Int.emod_eq_of_lt (by omega : (0 : Int) ≤ 1) (by omega)]
          cases b
          · exact Int.emod_eq_of_lt (by decide) (by simp [b2i]; omega)
          · exact Int.emod_eq_of_lt (by decide) (by simp [b2i]; omega)
  | two k w a b h ha hb iha ihb =>
    obtain ⟨ma, ⟨ma1, ma5, hma⟩, hsa⟩ := iha
    obtain ⟨mb, ⟨mb1, mb5, hmb⟩, hsb, hab⟩ : ∃ mb, Ms k b mb ∧ (∀ n, 2 ≤ n → n ≤ 1000000 → (∀ j : Nat, 1 ≤ j → j ≤ mb → ∃ v, IsIv n j v) → ∃ e, Sn G k n b e) ∧ (b = a → mb = ma) := by
      by_cases e : b = a
      · subst e; exact ⟨ma, ⟨ma1, ma5, hma⟩, hsa, fun _ => rfl⟩
      · obtain ⟨mb, h1, h2⟩ := ihb; exact ⟨mb, h1, h2, fun z => absurd z e⟩
    have y1 : (w == "yes") = false := by rcases h with rfl | rfl <;> decide
    have y2 : (w == "least") = false := by rcases h with rfl | rfl <;> decide
    refine ⟨max ma mb, ⟨by omega, by omega, fun fuel hf M => ?_⟩, fun n hn hn2 hi => ?_⟩
    · classical
      obtain ⟨f, rfl⟩ : ∃ f, fuel = f + 1 := ⟨fuel - 1, by omega⟩
      have mfb : (if b = a then ma else mb) = mb := by
        by_cases e : b = a
        · rw [if_pos e, hab e]
        · rw [if_neg e]
      unfold F_l_most
      refine ok_fn rfl ?_
      unfold b_l_most
      repeat decreasing_trivial_pre_omega
      refine ok_ifF y1 ?_
      repeat decreasing_trivial_pre_omega
      refine ok_ifF y2 ?_
      repeat decreasing_trivial_pre_omega
      refine most_comp (xs := [a, b]) (mf := fun x => if x = a then ma else mb) (by simp) rfl (fun x hx M => ?_) ?_ ?_
      · simp only [List.mem_cons, List.not_mem_nil, or_false] at hx
        rcases hx with rfl | rfl
        · simp only [if_true]; exact hma f (by omega) M
        · rw [mfb]; exact hmb f (by omega) M
      · repeat decreasing_trivial_pre_omega
        exact ⟨rfl, rfl⟩
      · repeat decreasing_trivial_pre_omega
        refine ok_maxL (ns := [(ma : Int), (mb : Int)]) rfl (by simp [mfb]) (by simp) ?_
        repeat decreasing_trivial_pre_omega
        refine ⟨?_, by simp⟩
        simp only [mxL, List.foldl_cons, List.foldl_nil]
        congr 2
        omega
    obtain ⟨ea, wa, da, esa, eha⟩ := hsa n hn hn2 (fun j j1 j2 => hi j j1 (by omega))
    obtain ⟨eb, wb, db, esb, ehb⟩ := hsb n hn hn2 (fun j j1 j2 => hi j j1 (by omega))
    rcases h with rfl | rfl
    · refine ⟨.op .times ea eb, ⟨wa, wb⟩, by simp only [dp]; omega, fun fuel hf M => ?_, fun ns an => ?_⟩
      · obtain ⟨f, rfl⟩ : ∃ f, fuel = f + 1 := ⟨fuel - 1, by omega⟩
        unfold F_said
        refine ok_fn rfl ?_
        unfold b_said
        repeat decreasing_trivial_pre_omega
        refine (esa f (by omega) _).mono ?_
        rintro _ M ⟨rfl, rfl⟩
        repeat decreasing_trivial_pre_omega
        refine (esb f (by omega) _).mono ?_
        rintro _ M ⟨rfl, rfl⟩
        repeat decreasing_trivial_pre_omega
        exact ⟨rfl, by simp⟩
      · obtain ⟨p, hp', hvp⟩ := eha ns an
        obtain ⟨q, hq, hvq⟩ := ehb ns an
        refine ⟨p && q, fun fuel hf M => ?_, ?_⟩
        · obtain ⟨f, rfl⟩ : ∃ f, fuel = f + 1 := ⟨fuel - 1, by omega⟩
          unfold F_holds F_l_holds
          constructor
          · refine ok_fn rfl ?_
            unfold b_holds
            repeat decreasing_trivial_pre_omega
            refine (hp' f (by omega) _).1.mono ?_
            rintro _ _ ⟨rfl, rfl⟩
            refine ⟨p, rfl, fun hp => ?_, fun hp => ?_⟩
            · repeat decreasing_trivial_pre_omega
              refine (hq f (by omega) _).1.mono ?_
              rintro _ _ ⟨rfl, rfl⟩
              repeat decreasing_trivial_pre_omega
              exact ⟨by simp [hp], by simp⟩
            · repeat decreasing_trivial_pre_omega
              exact ⟨by simp [hp], by simp⟩
          · refine ok_fn rfl ?_
            unfold b_l_holds
            repeat decreasing_trivial_pre_omega
            refine (hp' f (by omega) _).2.mono ?_
            rintro _ _ ⟨rfl, rfl⟩
            repeat decreasing_trivial_pre_omega
            refine (hq f (by omega) _).2.mono ?_
            rintro _ _ ⟨rfl, rfl⟩
            cases p <;> cases q <;> (repeat decreasing_trivial_pre_omega) <;> exact ⟨rfl, by simp⟩
        · simp only [val, Wd.ev, hvp, hvq]
          have o1 : (1 : Int) % n = 1 := Int.emod_eq_of_lt (by omega) (by omega)
          have o2 : (0 : Int) % n = 0 := Int.zero_emod n
          have o3 : (2 - 1 : Int) % n = 1 := by rw [show (2 - 1 : Int) = 1 from rfl]; exact o1
          cases p <;> cases q <;> simp [b2i, o1, o2]

    · refine ⟨.op .less (.op .sum ea eb) (.op .times ea eb), ⟨⟨wa, wb⟩, ⟨wa, wb⟩⟩, by simp only [dp]; omega, fun fuel hf M => ?_, fun ns an => ?_⟩
      · obtain ⟨f, rfl⟩ : ∃ f, fuel = f + 1 := ⟨fuel - 1, by omega⟩
        unfold F_said
        refine ok_fn rfl ?_
        unfold b_said
        repeat decreasing_trivial_pre_omega
        refine (esa f (by omega) _).mono ?_
        rintro _ M ⟨rfl, rfl⟩
        repeat decreasing_trivial_pre_omega
        refine (esb f (by omega) _).mono ?_
        rintro _ M ⟨rfl, rfl⟩
        repeat decreasing_trivial_pre_omega
        exact ⟨rfl, by simp⟩
      · obtain ⟨p, hp', hvp⟩ := eha ns an
        obtain ⟨q, hq, hvq⟩ := ehb ns an
        refine ⟨p || q, fun fuel hf M => ?_, ?_⟩
        · obtain ⟨f, rfl⟩ : ∃ f, fuel = f + 1 := ⟨fuel - 1, by omega⟩
          unfold F_holds F_l_holds
          constructor
          · refine ok_fn rfl ?_
            unfold b_holds
            repeat decreasing_trivial_pre_omega
            refine (hp' f (by omega) _).1.mono ?_
            rintro _ _ ⟨rfl, rfl⟩
            refine ⟨p, rfl, fun hp => ?_, fun hp => ?_⟩
            · repeat decreasing_trivial_pre_omega
              exact ⟨by simp [hp], by simp⟩
            · repeat decreasing_trivial_pre_omega
              refine (hq f (by omega) _).1.mono ?_
              rintro _ _ ⟨rfl, rfl⟩
              repeat decreasing_trivial_pre_omega
              exact ⟨by simp [hp], by simp⟩
          · refine ok_fn rfl ?_
            unfold b_l_holds
            repeat decreasing_trivial_pre_omega
            refine (hp' f (by omega) _).2.mono ?_
            rintro _ _ ⟨rfl, rfl⟩
            repeat decreasing_trivial_pre_omega
            refine (hq f (by omega) _).2.mono ?_
            rintro _ _ ⟨rfl, rfl⟩
            cases p <;> cases q <;> (repeat decreasing_trivial_pre_omega) <;> exact ⟨rfl, by simp⟩
        · simp only [val, Wd.ev, hvp, hvq]
          have o1 : (1 : Int) % n = 1 := Int.emod_eq_of_lt (by omega) (by omega)
          have o2 : (0 : Int) % n = 0 := Int.zero_emod n
          have o3 : (2 - 1 : Int) % n = 1 := by rw [show (2 - 1 : Int) = 1 from rfl]; exact o1
          cases p <;> cases q <;> simp [b2i, o1, o2]

  | least k m xs h0 h6 h1 hl hx ih =>
    classical
    obtain ⟨mf, hmf⟩ : ∃ mf : D → Nat, ∀ x ∈ xs, Ms k x (mf x) ∧ ∀ n, 2 ≤ n → n ≤ 1000000 → (∀ j : Nat, 1 ≤ j → j ≤ mf x → ∃ v, IsIv n j v) → ∃ e, Sn G k n x e := by
      refine ⟨fun x => if h : x ∈ xs then Classical.choose (ih x h) else 0, fun x hx => ?_⟩
      have := Classical.choose_spec (ih x hx)
      simp only [dif_pos hx]
      exact this
    obtain ⟨x0, xr, rfl⟩ : ∃ x0 xr, xs = x0 :: xr := by
      cases xs with
      | nil => simp at h1
      | cons x r => exact ⟨x, r, rfl⟩
    have mle : ∀ z ∈ ((x0 :: xr).length : Int) :: ((x0 :: xr).map fun x => (mf x : Int)), 1 ≤ z ∧ z ≤ 5 := by
      intro z hz
      rcases List.mem_cons.mp hz with rfl | hz
      · simp only [List.length_cons] at hl ⊢; omega
      · obtain ⟨x, hx, rfl⟩ := List.mem_map.mp hz
        obtain ⟨⟨a1, a5, _⟩, _⟩ := hmf x hx
        omega
    obtain ⟨mm, emm⟩ : ∃ mm : Nat, mxL (((x0 :: xr).length : Int) :: ((x0 :: xr).map fun x => (mf x : Int))) = mm := ⟨_, (Int.toNat_of_nonneg (by have := (mle _ (mxL_mem (by simp))).1; omega)).symm⟩
    have mm1 := (mle _ (mxL_mem (by simp))).1
    have mm5 := (mle _ (mxL_mem (by simp))).2
    rw [emm] at mm1 mm5
    have len_le : (x0 :: xr).length ≤ mm := by
      have := mxL_le (ns := ((x0 :: xr).length : Int) :: ((x0 :: xr).map fun x => (mf x : Int))) (a := ((x0 :: xr).length : Int)) (by simp)
      rw [emm] at this; omega
    have mf_le : ∀ x ∈ x0 :: xr, mf x ≤ mm := by
      intro x hx
      have := mxL_le (ns := ((x0 :: xr).length : Int) :: ((x0 :: xr).map fun x => (mf x : Int))) (a := (mf x : Int)) (List.mem_cons_of_mem _ (List.mem_map.mpr ⟨x, hx, rfl⟩))
      rw [emm] at this; omega
    refine ⟨mm, ⟨by omega, by omega, fun fuel hf M => ?_⟩, fun n hn hn2 hi => ?_⟩
    · obtain ⟨f, rfl⟩ : ∃ f, fuel = f + 1 := ⟨fuel - 1, by omega⟩
      unfold F_l_most
      refine ok_fn rfl ?_
      unfold b_l_most
      repeat decreasing_trivial_pre_omega
      refine most_comp (xs := x0 :: xr) (mf := mf) hl rfl (fun x hx M => (hmf x hx).1.2.2 f (by omega) M) ?_ ?_
      · repeat decreasing_trivial_pre_omega
        exact ⟨rfl, rfl⟩
      refine ok_addL rfl rfl (by simp at hl ⊢; omega) ?_
      repeat decreasing_trivial_pre_omega
      refine ok_maxL (ns := ((x0 :: xr).length : Int) :: ((x0 :: xr).map fun x => (mf x : Int))) rfl rfl (by simp) ?_
      rw [emm]
      repeat decreasing_trivial_pre_omega
      exact ⟨rfl, by simp⟩
    obtain ⟨ef, hef⟩ : ∃ ef : D → E, ∀ x ∈ x0 :: xr, Sn G k n x (ef x) := by
      refine ⟨fun x => if h : x ∈ x0 :: xr then Classical.choose ((hmf x h).2 n hn hn2 fun j j1 j2 => hi j j1 (Nat.le_trans j2 (mf_le x h))) else .num 0, fun x hx => ?_⟩
      have := Classical.choose_spec ((hmf x hx).2 n hn hn2 fun j j1 j2 => hi j j1 (Nat.le_trans j2 (mf_le x hx)))
      simp only [dif_pos hx]
      exact this
    have hxl : xr.length ≤ 4 := by simp at hl; omega
    have LS := fun M => least_spec (k := m) (e0 := ef x0) (r := xr.map ef) (M := M) hn hn2 (by simpa using hxl) (fun j j1 j2 => hi j j1 (by simp at j2 len_le; omega)) h0 h6
    obtain ⟨_, _, _, ⟨_, hu1, hu2⟩, _⟩ := Ok_def.mp (LS [])
    refine ⟨lst_e n m (ef x0) (xr.map ef), ?_, ?_, fun fuel hf M => ?_, fun ns an => ?_⟩
    · refine tld_wf (tot_wf (hef x0 (by simp)).1 fun y hy => ?_) (fun i hi => ?_) (by simp; omega) _
      · obtain ⟨x, hx, rfl⟩ := List.mem_map.mp hy
        exact (hef x (by simp [hx])).1
      · have := hu1 i hi; omega
    · have d1 := tot_dp (D := 3 * k) (k := 0) (e := ef x0) (r := xr.map ef) (by have := (hef x0 (by simp)).2.1; omega) fun y hy => by
        obtain ⟨x, hx, rfl⟩ := List.mem_map.mp hy
        exact (hef x (by simp [hx])).2.1
      have d2 := tld_dp (t := tot (ef x0) (xr.map ef)) (us := uN n (rowK m ((xr.map ef).length + 1))) (m := (xr.map ef).length + 1) ((xr.map ef).length + 1)
      simp only [List.length_map] at d1 d2
      simp only [lst_e, List.length_map, List.length_cons]
      omega
    · obtain ⟨f, rfl⟩ : ∃ f, fuel = f + 1 := ⟨fuel - 1, by omega⟩
      unfold F_said
      refine ok_fn rfl ?_
      unfold b_said
      repeat decreasing_trivial_pre_omega
      refine said_comp (xs := x0 :: xr) (ef := ef) hl rfl (fun x hx M => (hef x hx).2.2.1 f (by omega) M) ?_ ?_
      · repeat decreasing_trivial_pre_omega
        exact ⟨rfl, rfl⟩
      repeat decreasing_trivial_pre_omega
      refine (LS _).mono ?_
      rintro _ M ⟨⟨rfl, _, _⟩, rfl⟩
      repeat decreasing_trivial_pre_omega
      exact ⟨rfl, by simp⟩
    · obtain ⟨bf, hbf⟩ : ∃ bf : D → Bool, ∀ x ∈ x0 :: xr, Hs k x ns (bf x) ∧ val n ns (ef x) = b2i (bf x) := by
        refine ⟨fun x => if h : x ∈ x0 :: xr then Classical.choose ((hef x h).2.2.2 ns an) else false, fun x hx => ?_⟩
        have := Classical.choose_spec ((hef x hx).2.2.2 ns an)
        simp only [dif_pos hx]
        exact this
      refine ⟨decide (m ≤ (((x0 :: xr).filter bf).length : Nat)), fun fuel hf M => ?_, ?_⟩
      · obtain ⟨f, rfl⟩ : ∃ f, fuel = f + 1 := ⟨fuel - 1, by omega⟩
        unfold F_holds F_l_holds
        constructor
        · refine ok_fn rfl ?_
          unfold b_holds
          repeat decreasing_trivial_pre_omega
          refine count_spec (as_ := .tup (ns.map D.int)) (bf := bf) hl ?_ (fun x hx M => ((hbf x hx).1 f (by omega) M).1) ?_ ?_
          · rfl
          · repeat decreasing_trivial_pre_omega
            exact ⟨rfl, rfl⟩
          · repeat decreasing_trivial_pre_omega
            exact ⟨rfl, by simp⟩
        · refine ok_fn rfl ?_
          unfold b_l_holds
          repeat decreasing_trivial_pre_omega
          refine count_spec (as_ := .tup (ns.map D.int)) (bf := bf) hl ?_ (fun x hx M => ((hbf x hx).1 f (by omega) M).2) ?_ ?_
          · rfl
          · repeat decreasing_trivial_pre_omega
            exact ⟨rfl, rfl⟩
          · repeat decreasing_trivial_pre_omega
            exact ⟨rfl, by simp⟩
      · rw [← cnt_filter, List.map_cons]
        refine lst_val hn hu2 (hbf x0 (by simp)).2 ?_
        rw [List.map_map, List.map_map]
        exact List.map_congr_left fun x hx => (hbf x (by simp [hx])).2
end K37

set_option Elab.async false
set_option linter.all false
set_option maxRecDepth 100000
set_option maxHeartbeats 4000000

namespace K37
open PySem L2 EV LS
local macro_rules | `(tactic| decreasing_trivial_pre_omega) => `(tactic| with_reducible first
  | refine ok_seq ?_ | refine ok_sAs ?_ | refine ok_gN ?_ | refine ok_e2 ?_ | refine ok_V (by with_unfolding_all exact rfl) ?_ | refine ok_C ?_ | refine ok_A ?_ | refine ok_aC ?_ | refine ok_aN ?_ | refine ok_tB ?_ | refine ok_sIf ?_ | refine ok_rt ?_ | refine ok_nil ?_ | refine ok_ex ?_ | refine ok_e1 ?_
  | refine ok_add ?_ | refine ok_ltA ?_ | refine ok_eqI ?_ | refine ok_neI ?_ | (refine ok_pI ?hz ?_; case hz => (with_unfolding_all first | exact rfl | decide | ((try simp only [decide_eq_true_eq, true_and, and_true, List.length_map, List.length_cons, List.length_nil, List.length_append, List.length_replicate]) <;> omega))) | (refine ok_mul ?hz ?_; case hz => (with_unfolding_all first | decide | ((try simp only [mulOk, decide_eq_true_eq, List.length_map, List.length_cons, List.length_nil, List.length_append, List.length_replicate]) <;> omega))) | refine ok_eqS ?_ | refine ok_neS ?_ | refine ok_eqB ?_ | refine ok_neB ?_ | refine ok_is ?_ | refine ok_isnot ?_ | refine ok_neg ?_ | refine ok_not ?_
  | refine ok_ixT (by with_unfolding_all exact rfl) ?_ | refine ok_ixL (by with_unfolding_all exact rfl) ?_ | refine ok_ixF (by with_unfolding_all exact rfl) ?_ | refine ok_ixR (by assumption) (by with_unfolding_all exact rfl) ?_ | refine ok_ixR (List.getElem?_set_self (by simpa only [List.length_set])) (by with_unfolding_all exact rfl) ?_
  | refine ok_tNot ?_ | refine ok_tAnd ?_ | refine ok_tOr ?_ | refine ok_tV ?_ | refine ok_tYes ?_ | refine ok_If ?_ | refine ok_And ?_ | refine ok_Or ?_
  | refine ok_mkT (by with_unfolding_all exact rfl) (by with_unfolding_all simp) ?_ | refine ok_mkL (by with_unfolding_all exact rfl) (by with_unfolding_all simp) ?_ | refine ok_mkR (by with_unfolding_all exact rfl) (by with_unfolding_all simp) ?_ | refine ok_ints ?_
  | refine ok_lenT ?_ | refine ok_lenL ?_ | refine ok_lenF ?_ | refine ok_lenR (by assumption) ?_ | refine ok_intB ?_ | refine ok_intI ?_ | refine ok_max ?_ | refine ok_min ?_
  | refine ok_M1 ?_ | refine ok_Sl ?_ | refine ok_SlR ?_ | refine ok_oNo ?_ | refine ok_oAt ?_ | refine ok_slT ?_ | refine ok_for ?_ | refine ok_iR1 ?_ | refine ok_iR2 ?_ | refine ok_iE (s := ⟨[], none⟩) ?_ | refine ok_iRv ?_ | refine ok_iZip ?_ | refine ok_iDown ?_ | refine ok_iEnum ?_ | refine ok_augS ?_ | refine ok_pick ?_ | refine ok_trim ?_ | refine ok_forW ?_ | refine ok_sPar ?_ | refine ok_par3 ?_ | refine ok_gS ?_ | refine ok_gsC ?_ | refine ok_gsN ?_ | refine ok_bk ?_ | refine ok_ct ?_
  | refine ok_isi (by with_unfolding_all exact rfl) ?_ | refine ok_retD ?_ | refine ok_gT (by with_unfolding_all exact rfl) ?_ | refine ok_gTL (by with_unfolding_all exact rfl) ?_ | refine ⟨_, rfl, ?_⟩ | refine ⟨_, _, _, _, rfl, rfl, by assumption, by with_unfolding_all exact rfl, ?_⟩ | refine ⟨_, _, _, _, rfl, rfl, List.getElem?_set_self (by simpa only [List.length_set]), by with_unfolding_all exact rfl, ?_⟩
  | refine ok_ifT (by with_unfolding_all decide) ?_ | refine ok_ifF (by with_unfolding_all decide) ?_ | refine ⟨fun h => absurd h (by with_unfolding_all decide), fun _ => ?_⟩ | refine ⟨fun _ => ?_, fun h => absurd h (by with_unfolding_all decide)⟩ | refine ⟨_, _, rfl, ?_⟩ | refine ⟨_, _, _, rfl, ?_⟩)
theorem dep_enc : ∀ e : E, dep (enc e) ≤ dp e + 3
  | .num c => by simp [enc, dep, deps, dp]
  | .giv c => by simp [enc, dep, deps, dp]
  | .op w a b => by have := dep_enc a; have := dep_enc b; simp [enc, dep, deps, dp]; omega
theorem iv_bez {n j x y : Int} (hn : 2 ≤ n) (h : n * x + j * y = 1) : ∃ v, IsIv n j v := by
  refine ⟨y % n, Int.emod_nonneg _ (by omega), Int.emod_lt_of_pos _ (by omega), ?_⟩
  have : Cg n (j * (y % n)) 1 := (Cg.rfl.mul Cg.mod).trans ⟨-x, by grind⟩
  exact this.emod
theorem trim_last {A M' : Mm} {x : List D} (n : Nx A.length (A ++ [x]) M') : M'.take A.length = A := by
  obtain ⟨a, b, c, rfl⟩ := n
  simp
theorem ext_comp {c : Int} {rows : List (List Int)} {M : Mm} {Q : W → Mm → Prop} {L : Lc} {i : Nat} {js : List (Option Nat)} (hz : rows.length ≤ 1000) (hl : ∀ r ∈ rows, r.length ≤ 100) (e : outL js L = [none]) (hL : L[i]? = some (some (.d (.lst (rows.map intsD)))))
    (q : Q (.d (.lst ((rows.map fun r => r ++ [c]).map intsD))) M) : Ok (eComp js (iE (eV i)) (gN 0) EV.tYes (e2 pAdd (eV 0) (eA mkT (aCons (eC (.int c)) aNil))) L M) Q := by
  refine comp_inv (fun i acc L' M' => acc = ((rows.take i).map fun r => r ++ [c]).map intsD ∧ M' = M ∧ ∃ a, L' = [a]) ?_
  refine ok_iE (s := ⟨[], none⟩) (ok_V hL ⟨_, rfl, ⟨rfl, rfl, none, e⟩, ?_, by simp; omega, ?_, ?_⟩)
  · rintro i acc L' M' hi ⟨rfl, rfl, _⟩
    exact ⟨rfl, (fun t e => by cases e), by simp; omega⟩
  · rintro i d acc _ M hx ⟨rfl, rfl, a, rfl⟩
    simp only [List.getElem?_map, Option.map_eq_some_iff] at hx
    obtain ⟨r, hr, rfl⟩ := hx
    have := hl r (List.mem_of_getElem? hr)
    unfold intsD
    repeat decreasing_trivial_pre_omega
    refine ok_addT (by simp; omega) ?_
    exact ⟨_, _, rfl, rfl, by rw [List.take_add_one, hr]; simp [intsD], rfl, _, rfl⟩
  · rintro acc _ M ⟨rfl, rfl, a, rfl⟩
    rw [List.take_of_length_le (by simp)]
    exact q
theorem all_rows {G : Nat} (hG : G ≤ 3) {M : Mm} : Ok (F_l_all [.d (.int G)] M) fun w M' => (∃ rows : List (List Int), w = .d (.lst (rows.map intsD)) ∧ (∀ r ∈ rows, Ans G r) ∧ rows.length ≤ 8) ∧ M' = M := by
  unfold F_l_all
  refine ok_fn rfl ?_
  unfold b_l_all
  repeat decreasing_trivial_pre_omega
  refine ⟨by simp only [in62, decide_eq_true_eq]; omega, ?_⟩
  refine forD_inv (fun i L M' => M' = M ∧ ∃ (rows : List (List Int)) (o2 : Option W), (∀ r ∈ rows, Ans i r) ∧ rows.length = 2 ^ i ∧ L = [some (.d (.int G)), some (.d (.lst (rows.map intsD))), o2]) ⟨rfl, [[]], _, ?_, rfl, rfl⟩ (fun i L M _ _ t e => by cases e) ?_ ?_
  · intro r hr
    rw [List.mem_singleton.mp hr]
    exact ⟨rfl, by simp⟩
  · rintro i d _ M hd ⟨rfl, rows, o2, hr, rl, rfl⟩
    obtain ⟨hi, rfl⟩ := rngD_get hd
    have hi : i < 3 := by simp at hi; omega
    have r8 : rows.length ≤ 8 := by
      have : i = 0 ∨ i = 1 ∨ i = 2 := by omega
      rcases this with rfl | rfl | rfl <;> simp at rl <;> omega
    have hl : ∀ r ∈ rows, r.length ≤ 100 := fun r h => by rw [(hr r h).1]; omega
    repeat decreasing_trivial_pre_omega
    refine ext_comp (rows := rows) (by omega) hl rfl rfl ?_
    repeat decreasing_trivial_pre_omega
    refine ext_comp (rows := rows) (by omega) hl rfl rfl ?_
    refine ok_addL rfl rfl (by simp; omega) ?_
    repeat decreasing_trivial_pre_omega
    refine ⟨rfl, (rows.map fun r => r ++ [0]) ++ (rows.map fun r => r ++ [1]), _, ?_, by simp [rl, Nat.pow_succ]; omega, by simp; rfl⟩
    intro r hm
    rcases List.mem_append.mp hm with hm | hm
    · obtain ⟨x, hx, rfl⟩ := List.mem_map.mp hm
      obtain ⟨a1, a2⟩ := hr x hx
      refine ⟨by simp [a1], fun y hy => ?_⟩
      rcases List.mem_append.mp hy with hy | hy
      · exact a2 y hy
      · rw [List.mem_singleton.mp hy]; exact .inl rfl
    · obtain ⟨x, hx, rfl⟩ := List.mem_map.mp hm
      obtain ⟨a1, a2⟩ := hr x hx
      refine ⟨by simp [a1], fun y hy => ?_⟩
      rcases List.mem_append.mp hy with hy | hy
      · exact a2 y hy
      · rw [List.mem_singleton.mp hy]; exact .inr rfl
  · rintro _ M ⟨rfl, rows, o2, hr, rl, rfl⟩
    simp only [rngD, List.length_map, List.length_range, Int.toNat_natCast] at hr rl
    have r8 : rows.length ≤ 8 := by
      have : G = 0 ∨ G = 1 ∨ G = 2 ∨ G = 3 := by omega
      rcases this with rfl | rfl | rfl | rfl <;> simp at rl <;> omega
    repeat decreasing_trivial_pre_omega
    exact ⟨⟨rows, rfl, hr, r8⟩, by simp⟩
theorem law_ok (ns : List Int) (hn : ns.length ≤ 63) : Ok (F_law [.d (.fz (ns.map D.int))] []) fun w _ => w = .d (.bl true) := by
  unfold F_law
  refine ok_fn rfl ?_
  unfold b_law
  repeat decreasing_trivial_pre_omega
  refine (box_spec (by omega) hn).mono ?_
  rintro _ _ ⟨x0, y0, z0, rfl, rfl⟩
  have hb : Bx ([] ++ [[D.int x0, D.int y0, D.int z0]]) 0 := ⟨x0, y0, z0, rfl⟩
  rw [show ([] : Mm).length = 0 from rfl]
  have n := Nx.refl hb
  repeat decreasing_trivial_pre_omega
  (refine (take_spec hb (by omega) (by omega)).mono ?_; rintro _ _ ⟨d1, rfl, l_d1, u_d1, n'⟩; replace n := n.trans n'; replace hb := n'.bx hb; clear n')
  obtain ⟨G, hG⟩ : ∃ G : Nat, 1 + d1 = G := ⟨(1 + d1).toNat, by omega⟩
  repeat decreasing_trivial_pre_omega
  rw [hG]
  repeat decreasing_trivial_pre_omega
  (refine (take_spec hb (by omega) (by omega)).mono ?_; rintro _ _ ⟨d2, rfl, l_d2, u_d2, n'⟩; replace n := n.trans n'; replace hb := n'.bx hb; clear n')
  obtain ⟨w3, e3, h3⟩ := at3 l_d2 u_d2 (.int 10) (.int 10) (.int 6)
  obtain ⟨k, rfl, k1, k2⟩ : ∃ k : Nat, w3 = .int k ∧ 1 ≤ k ∧ k ≤ 10 := by
    rcases h3 with rfl | rfl | rfl
    · exact ⟨10, rfl, by omega, by omega⟩
    · exact ⟨10, rfl, by omega, by omega⟩
    · exact ⟨6, rfl, by omega, by omega⟩
  refine ok_ixL e3 ?_
  repeat decreasing_trivial_pre_omega
  refine (saying_spec k 200 _ 0 G k hb (by omega) (by omega) (by omega) rfl (by omega) (by omega)).mono ?_
  rintro _ _ ⟨d, rfl, hS, n'⟩
  replace n := n.trans n'
  replace hb := n'.bx hb
  clear n'
  repeat decreasing_trivial_pre_omega
  (refine (take_spec hb (by omega) (by omega)).mono ?_; rintro _ _ ⟨d3, rfl, l_d3, u_d3, n'⟩; replace n := n.trans n'; replace hb := n'.bx hb; clear n')
  rename_i M1
  repeat decreasing_trivial_pre_omega
  refine Ok.mono (Q := fun (o : Out) M3 => ∃ (d : D) (o4 : Option W), o = .nx [some (.d (.fz (ns.map D.int))), some (.ref 0), some (.d (.int G)), some (.d d), o4, none, none, none, none] ∧ IsS (G : Int) 10 d) ?_ ?_
  · refine ok_ifd (fun _ => ?_) (fun _ => ?_)
    · repeat decreasing_trivial_pre_omega
      refine comp_inv (fun i acc L' M' => (∀ x ∈ acc, IsS (G : Int) 1 x) ∧ acc.length = i ∧ M' = M1 ∧ ∃ a, L' = [a, some (.d (.int G)), some (.d (.fz (ns.map D.int)))]) ?_
      repeat decreasing_trivial_pre_omega
      refine ⟨by decide, ⟨by simp, rfl, rfl, none, rfl⟩, ?_, by simp [rngD], ?_, ?_⟩
      · rintro i acc L' M' hi ⟨_, hl, rfl, _⟩
        exact ⟨rfl, (fun t e => by cases e), by omega⟩
      · rintro i d acc _ M1 hx ⟨ha, hl, rfl, a, rfl⟩
        obtain ⟨hi, rfl⟩ := rngD_get hx
        repeat decreasing_trivial_pre_omega
        refine (box_spec (by omega) hn).mono ?_
        rintro _ _ ⟨x, y, z, rfl, rfl⟩
        have hb2 : Bx (M1 ++ [acc] ++ [[.int x, .int y, .int z]]) (M1 ++ [acc]).length := ⟨x, y, z, by simp⟩
        repeat decreasing_trivial_pre_omega
        refine (saying_spec 1 200 _ _ G 1 hb2 (by omega) (by omega) (by omega) rfl (by omega) (by omega)).mono ?_
        rintro _ M' ⟨d', rfl, hS', n'⟩
        refine ⟨_, rfl, ?_⟩
        rw [trim_last n']
        refine ⟨_, _, rfl, rfl, ?_, by simp [hl], rfl, _, rfl⟩
        intro x hx
        rcases List.mem_append.mp hx with hx | hx
        · exact ha x hx
        · rw [List.mem_singleton.mp hx]; exact hS'
      rintro acc _ M1 ⟨ha, hl, rfl, a, rfl⟩
      have hl5 : acc.length = 5 := by simpa [rngD] using hl
      repeat decreasing_trivial_pre_omega
      refine ok_tup (xs := acc) rfl ?_
      repeat decreasing_trivial_pre_omega
      (refine (take_spec hb (by omega) (by omega)).mono ?_; rintro _ _ ⟨d4, rfl, l_d4, u_d4, n'⟩; replace n := n.trans n'; replace hb := n'.bx hb; clear n')
      repeat decreasing_trivial_pre_omega
      have il := IsS.least (g := (G : Int)) 1 d4 acc l_d4 (by omega) (by omega) (by omega) ha
      exact il.up (by omega)
    · repeat decreasing_trivial_pre_omega
      exact hS.up (by omega)
  clear hS n hb
  rintro _ M2 ⟨d, o4, rfl, hS⟩
  obtain ⟨mm, ⟨mm1, mm5, hmm⟩, hal⟩ := all_spec hS
  repeat decreasing_trivial_pre_omega
  refine (box_spec (by omega) hn).mono ?_
  rintro _ _ ⟨x, y, z, rfl, rfl⟩
  have hb : Bx (M2 ++ [[.int x, .int y, .int z]]) M2.length := ⟨x, y, z, by simp⟩
  repeat decreasing_trivial_pre_omega
  refine (n_spec hb).mono ?_
  rintro _ M3 ⟨m, rfl, m2, m1, _⟩
  repeat decreasing_trivial_pre_omega
  obtain ⟨n0, en0, n2, n9⟩ : ∃ n0 : Int, (if 999000 < m then 999000 else m) = n0 ∧ 2 ≤ n0 ∧ n0 ≤ 999000 := ⟨_, rfl, by split <;> omega, by split <;> omega⟩
  rw [en0]
  refine (while_inv (QS := fun o M' => M' = M3 ∧ ∃ (n : Int), o = .nx [some (.d (.fz (ns.map D.int))), some (.ref 0), some (.d (.int G)), some (.d d), o4, some (.d (.int n)), none, none, none] ∧ 2 ≤ n ∧ n ≤ 1000000 ∧ ∀ j : Nat, 1 ≤ j → j ≤ mm → ∃ v, IsIv n j v)
    (I := fun q L M' => M' = M3 ∧ ∃ (n : Int), L = [some (.d (.fz (ns.map D.int))), some (.ref 0), some (.d (.int G)), some (.d d), o4, some (.d (.int n)), none, none, none] ∧ 2 ≤ n ∧ n + q ≤ 999100 ∧ q = ((1 - n) % 60).toNat) ?_ NW ((1 - n0) % 60).toNat _ _
    ⟨rfl, n0, rfl, n2, by omega, rfl⟩ (by rw [NW_eq]; omega)).mono ?_
  · rintro q L M3 ⟨rfl, n, rfl, n2', nq, eq⟩
    repeat decreasing_trivial_pre_omega
    refine comp_inv (fun i acc L' M' => ∃ bs : List Bool, acc = bs.map D.bl ∧ bs.length = i ∧ (∀ (j : Nat) (b : Bool), bs[j]? = some b → (b = false → ∃ v, IsIv n (1 + (j : Nat)) v) ∧ (b = true → (1 - n) % 60 ≠ 0)) ∧ M' = M3 ∧ ∃ a, L' = [a, some (.d (.int n))]) ?_
    repeat decreasing_trivial_pre_omega
    refine (hmm 200 (by omega) _).mono ?_
    rintro _ M3 ⟨rfl, rfl⟩
    repeat decreasing_trivial_pre_omega
    refine ⟨1, _, rfl, rfl, ⟨by decide, by simp only [in62, decide_eq_true_eq]; omega⟩, ⟨[], rfl, rfl, by simp, rfl, none, rfl⟩, ?_, by simp only [rngD, List.length_map, List.length_range]; omega, ?_, ?_⟩
    · rintro i acc L' M' hi ⟨bs, rfl, hl, _, rfl, _⟩
      exact ⟨rfl, (fun t e => by cases e), by simp [hl]⟩
    · rintro i d' acc _ M3 hx ⟨bs, rfl, hl, hbs, rfl, a, rfl⟩
      obtain ⟨hi, rfl⟩ := rngD_get hx
      have hi : i < mm := by omega
      repeat decreasing_trivial_pre_omega
      refine (shared_spec (by omega) (by omega) (by omega)).mono ?_
      rintro _ _ ⟨rfl, g, rfl, g0, gn, gj, x, y, hxy⟩
      repeat decreasing_trivial_pre_omega
      refine ⟨_, _, rfl, rfl, bs ++ [!decide (g = 1)], by simp, by simp [hl], ?_, rfl, _, rfl⟩
      intro j b hj
      by_cases hjl : j < bs.length
      · rw [List.getElem?_append_left hjl] at hj
        exact hbs j b hj
      · have ej : j = bs.length := by
          have := (List.getElem?_eq_some_iff.mp hj).1
          simp at this; omega
        subst ej
        simp only [List.getElem?_concat_length, Option.some.injEq] at hj
        subst hj
        rw [hl]
        refine ⟨fun h => ?_, fun h h60 => ?_⟩
        · have : g = 1 := by simpa using h
          subst this
          exact iv_bez n2' hxy
        · have hg : g ≠ 1 := by simpa using h
          apply hg
          have hj60 : (1 + (i : Int)) ∣ 60 := by
            have : i = 0 ∨ i = 1 ∨ i = 2 ∨ i = 3 ∨ i = 4 := by omega
            rcases this with rfl | rfl | rfl | rfl | rfl <;> decide
          have d60 : (60 : Int) ∣ 1 - n := Int.dvd_of_emod_eq_zero h60
          have g1 : g ∣ 1 - n := Int.dvd_trans (Int.dvd_trans gj hj60) d60
          have g2 : g ∣ 1 := by have := Int.dvd_add g1 gn; rwa [Int.sub_add_cancel] at this
          exact Int.eq_one_of_dvd_one g0 g2
    rintro acc _ M3 ⟨bs, rfl, hl, hbs, rfl, a, rfl⟩
    have hl : bs.length = mm := by simp only [rngD, List.length_map, List.length_range] at hl; omega
    repeat decreasing_trivial_pre_omega
    refine ok_bls (bs := bs) rfl rfl ?_
    repeat decreasing_trivial_pre_omega
    refine ⟨fun h => ?_, fun h => ?_⟩
    · obtain ⟨b, hb1, hb2⟩ := List.any_eq_true.mp h
      obtain ⟨j, hj, rfl⟩ := List.mem_iff_getElem.mp hb1
      have := (hbs j _ (List.getElem?_eq_getElem hj)).2 hb2
      repeat decreasing_trivial_pre_omega
      exact ⟨((1 - (n + 1)) % 60).toNat, by omega, rfl, n + 1, rfl, by omega, by omega, rfl⟩
    · refine ⟨rfl, n, rfl, n2', by omega, fun j j1 j2 => ?_⟩
      obtain ⟨i, rfl⟩ : ∃ i, j = i + 1 := ⟨j - 1, by omega⟩
      have hi : i < bs.length := by omega
      have hf : bs[i] = false := by
        cases e : bs[i] with
        | false => rfl
        | true => rw [List.any_eq_false] at h; exact absurd e (by have := h _ (List.getElem_mem hi); simpa using this)
      have := (hbs i _ (List.getElem?_eq_getElem hi)).1 hf
      rwa [show (1 + (i : Int)) = ((i + 1 : Nat) : Int) by omega] at this
  rintro _ M3 ⟨rfl, n, rfl, n2', n1', hiv⟩
  obtain ⟨e, ew, ed, es, eh⟩ := hal n n2' n1' hiv
  repeat decreasing_trivial_pre_omega
  refine (es 200 (by omega) _).mono ?_
  rintro _ M3 ⟨rfl, rfl⟩
  repeat decreasing_trivial_pre_omega
  refine (all_rows (by omega)).mono ?_
  rintro _ M3 ⟨⟨rows, rfl, hrows, rl8⟩, rfl⟩
  refine ⟨_, rfl, ?_⟩
  refine forD_inv (fun i L M' => M' = M3 ∧ ∃ (o7 o8 : Option W), L = [some (.d (.fz (ns.map D.int))), some (.ref 0), some (.d (.int G)), some (.d d), o4, some (.d (.int n)), some (.d (enc e)), o7, o8]) ⟨rfl, _, _, rfl⟩ (fun i L M _ _ t e => by cases e) ?_ ?_
  · rintro i d' _ M3 hd ⟨rfl, o7, o8, rfl⟩
    simp only [List.getElem?_map, Option.map_eq_some_iff] at hd
    obtain ⟨r, hr, rfl⟩ := hd
    have an := hrows r (List.mem_of_getElem? hr)
    obtain ⟨b, hb, hv⟩ := eh r an
    obtain ⟨al, a01⟩ := an
    have hrs : Rs n r := fun x hx => by rcases a01 x hx with rfl | rfl <;> omega
    repeat decreasing_trivial_pre_omega
    refine (hb 200 (by omega) _).2.mono ?_
    rintro _ M3 ⟨rfl, rfl⟩
    repeat decreasing_trivial_pre_omega
    refine (worth_spec n2' n1' hrs (by rw [al]; exact ew) 200 (by omega) _).mono ?_
    rintro _ M3 ⟨rfl, rfl⟩
    rw [hv, show (if b = true then (1 : Int) else 0) = b2i b from rfl]
    repeat decreasing_trivial_pre_omega
    refine ⟨fun h => absurd h (by simp), fun _ => ?_⟩
    repeat decreasing_trivial_pre_omega
    refine (pworth_spec n2' n1' hrs (by rw [al]; exact ew) 200 (by omega) _).mono ?_
    rintro _ M3 ⟨rfl, rfl⟩
    rw [hv]
    repeat decreasing_trivial_pre_omega
    refine ok_ifF (by simp) ?_
    repeat decreasing_trivial_pre_omega
    refine (hb 200 (by omega) _).1.mono ?_
    rintro _ M3 ⟨rfl, rfl⟩
    repeat decreasing_trivial_pre_omega
    refine ok_ifF (by cases b <;> simp [b2i]) ?_
    repeat decreasing_trivial_pre_omega
    exact ⟨rfl, _, _, rfl⟩
  · rintro _ M3 ⟨rfl, o7, o8, rfl⟩
    repeat decreasing_trivial_pre_omega
    refine (es 200 (by omega) _).mono ?_
    rintro _ M3 ⟨rfl, rfl⟩
    repeat decreasing_trivial_pre_omega
    refine ok_eqT rfl rfl rfl (by have := dep_enc e; omega) ?_
    repeat decreasing_trivial_pre_omega
    rfl
theorem law_math (ns : List Int) (hn : ns.length ≤ 63) : ∃ M', F_law [.d (.fz (ns.map D.int))] [] = .ok (.d (.bl true)) M' := by
  obtain ⟨_, M, e, rfl⟩ := Ok_def.mp (law_ok ns hn)
  exact ⟨M, e⟩
end K37

set_option Elab.async false
set_option linter.all false
set_option maxRecDepth 100000
set_option maxHeartbeats 4000000
namespace K37
open PySem L2 EV
theorem all_mk {l : PySem.W.OpenLaw} {w : World} {K : PySem.W.Frag} {h : Heap} {mg : Str → Option Value} {fa f1 f2 f3 f4 f5 f6 f7 f8 f9 f10 f11 f12 f13 f14 f15 f16 f17 : Addr} (X : K.In h) (G : h.Ns mainGlobals mg) (hfa : mg "law" = some (.ref fa))
    {od1 an1 od2 an2 od3 an3 od4 an4 od5 an5 od6 an6 od7 an7 od8 an8 od9 an9 od10 an10 od11 an11 od12 an12 od13 an13 od14 an14 od15 an15 od16 an16 od17 an17 : Option Addr} {sl1 sl2 sl3 sl4 sl5 sl6 sl7 sl8 sl9 sl10 sl11 sl12 sl13 sl14 sl15 sl16 sl17 : Array (Option Value)} {oc1 kV1 dc1 pm1 cd1 ct1 oc2 kV2 dc2 pm2 cd2 ct2 oc3 kV3 dc3 pm3 cd3 ct3 oc4 kV4 dc4 pm4 cd4 ct4 oc5 kV5 dc5 pm5 cd5 ct5 oc6 kV6 dc6 pm6 cd6 ct6 oc7 kV7 dc7 pm7 cd7 ct7 oc8 kV8 dc8 pm8 cd8 ct8 oc9 kV9 dc9 pm9 cd9 ct9 oc10 kV10 dc10 pm10 cd10 ct10 oc11 kV11 dc11 pm11 cd11 ct11 oc12 kV12 dc12 pm12 cd12 ct12 oc13 kV13 dc13 pm13 cd13 ct13 oc14 kV14 dc14 pm14 cd14 ct14 oc15 kV15 dc15 pm15 cd15 ct15 oc16 kV16 dc16 pm16 cd16 ct16 oc17 kV17 dc17 pm17 cd17 ct17 : Value}
    (a1 : PySem.W.nsIn K mainGlobals "inverse" = some (some (.ref f1))) (l1 : K.lookup f1 = some ⟨oc1, od1, .func (PySem.W.fnOf "inverse" "inverse" (defArgs s_inverse) (defBody s_inverse) (defScope s_inverse) .none kV1 dc1 pm1 an1 cd1 ct1), sl1⟩) (c1 : PySem.W.codeIn K cd1 "inverse" = true) (k1 : PySem.W.keepIn K (.ref f1) = true)
    (a2 : PySem.W.nsIn K mainGlobals "holds" = some (some (.ref f2))) (l2 : K.lookup f2 = some ⟨oc2, od2, .func (PySem.W.fnOf "holds" "holds" (defArgs s_holds) (defBody s_holds) (defScope s_holds) .none kV2 dc2 pm2 an2 cd2 ct2), sl2⟩) (c2 : PySem.W.codeIn K cd2 "holds" = true) (k2 : PySem.W.keepIn K (.ref f2) = true)
    (a3 : PySem.W.nsIn K mainGlobals "said" = some (some (.ref f3))) (l3 : K.lookup f3 = some ⟨oc3, od3, .func (PySem.W.fnOf "said" "said" (defArgs s_said) (defBody s_said) (defScope s_said) .none kV3 dc3 pm3 an3 cd3 ct3), sl3⟩) (c3 : PySem.W.codeIn K cd3 "said" = true) (k3 : PySem.W.keepIn K (.ref f3) = true)
    (a4 : PySem.W.nsIn K mainGlobals "said_least" = some (some (.ref f4))) (l4 : K.lookup f4 = some ⟨oc4, od4, .func (PySem.W.fnOf "said_least" "said_least" (defArgs s_said_least) (defBody s_said_least) (defScope s_said_least) .none kV4 dc4 pm4 an4 cd4 ct4), sl4⟩) (c4 : PySem.W.codeIn K cd4 "said_least" = true) (k4 : PySem.W.keepIn K (.ref f4) = true)
    (a5 : PySem.W.nsIn K mainGlobals "step_numbers" = some (some (.ref f5))) (l5 : K.lookup f5 = some ⟨oc5, od5, .func (PySem.W.fnOf "step_numbers" "step_numbers" (defArgs s_step_numbers) (defBody s_step_numbers) (defScope s_step_numbers) .none kV5 dc5 pm5 an5 cd5 ct5), sl5⟩) (c5 : PySem.W.codeIn K cd5 "step_numbers" = true) (k5 : PySem.W.keepIn K (.ref f5) = true)
    (a6 : PySem.W.nsIn K mainGlobals "inverse_of" = some (some (.ref f6))) (l6 : K.lookup f6 = some ⟨oc6, od6, .func (PySem.W.fnOf "inverse_of" "inverse_of" (defArgs s_inverse_of) (defBody s_inverse_of) (defScope s_inverse_of) .none kV6 dc6 pm6 an6 cd6 ct6), sl6⟩) (c6 : PySem.W.codeIn K cd6 "inverse_of" = true) (k6 : PySem.W.keepIn K (.ref f6) = true)
    (a7 : PySem.W.nsIn K mainGlobals "worth" = some (some (.ref f7))) (l7 : K.lookup f7 = some ⟨oc7, od7, .func (PySem.W.fnOf "worth" "worth" (defArgs s_worth) (defBody s_worth) (defScope s_worth) .none kV7 dc7 pm7 an7 cd7 ct7), sl7⟩) (c7 : PySem.W.codeIn K cd7 "worth" = true) (k7 : PySem.W.keepIn K (.ref f7) = true)
    (a8 : PySem.W.nsIn K mainGlobals "_law_box" = some (some (.ref f8))) (l8 : K.lookup f8 = some ⟨oc8, od8, .func (PySem.W.fnOf "_law_box" "_law_box" (defArgs s_l_box) (defBody s_l_box) (defScope s_l_box) .none kV8 dc8 pm8 an8 cd8 ct8), sl8⟩) (c8 : PySem.W.codeIn K cd8 "_law_box" = true) (k8 : PySem.W.keepIn K (.ref f8) = true)
    (a9 : PySem.W.nsIn K mainGlobals "_law_take" = some (some (.ref f9))) (l9 : K.lookup f9 = some ⟨oc9, od9, .func (PySem.W.fnOf "_law_take" "_law_take" (defArgs s_l_take) (defBody s_l_take) (defScope s_l_take) .none kV9 dc9 pm9 an9 cd9 ct9), sl9⟩) (c9 : PySem.W.codeIn K cd9 "_law_take" = true) (k9 : PySem.W.keepIn K (.ref f9) = true)
    (a10 : PySem.W.nsIn K mainGlobals "_law_n" = some (some (.ref f10))) (l10 : K.lookup f10 = some ⟨oc10, od10, .func (PySem.W.fnOf "_law_n" "_law_n" (defArgs s_l_n) (defBody s_l_n) (defScope s_l_n) .none kV10 dc10 pm10 an10 cd10 ct10), sl10⟩) (c10 : PySem.W.codeIn K cd10 "_law_n" = true) (k10 : PySem.W.keepIn K (.ref f10) = true)
    (a11 : PySem.W.nsIn K mainGlobals "_law_worth" = some (some (.ref f11))) (l11 : K.lookup f11 = some ⟨oc11, od11, .func (PySem.W.fnOf "_law_worth" "_law_worth" (defArgs s_l_worth) (defBody s_l_worth) (defScope s_l_worth) .none kV11 dc11 pm11 an11 cd11 ct11), sl11⟩) (c11 : PySem.W.codeIn K cd11 "_law_worth" = true) (k11 : PySem.W.keepIn K (.ref f11) = true)
    (a12 : PySem.W.nsIn K mainGlobals "_law_shared" = some (some (.ref f12))) (l12 : K.lookup f12 = some ⟨oc12, od12, .func (PySem.W.fnOf "_law_shared" "_law_shared" (defArgs s_l_shared) (defBody s_l_shared) (defScope s_l_shared) .none kV12 dc12 pm12 an12 cd12 ct12), sl12⟩) (c12 : PySem.W.codeIn K cd12 "_law_shared" = true) (k12 : PySem.W.keepIn K (.ref f12) = true)
    (a13 : PySem.W.nsIn K mainGlobals "_law_saying" = some (some (.ref f13))) (l13 : K.lookup f13 = some ⟨oc13, od13, .func (PySem.W.fnOf "_law_saying" "_law_saying" (defArgs s_l_saying) (defBody s_l_saying) (defScope s_l_saying) .none kV13 dc13 pm13 an13 cd13 ct13), sl13⟩) (c13 : PySem.W.codeIn K cd13 "_law_saying" = true) (k13 : PySem.W.keepIn K (.ref f13) = true)
    (a14 : PySem.W.nsIn K mainGlobals "_law_holds" = some (some (.ref f14))) (l14 : K.lookup f14 = some ⟨oc14, od14, .func (PySem.W.fnOf "_law_holds" "_law_holds" (defArgs s_l_holds) (defBody s_l_holds) (defScope s_l_holds) .none kV14 dc14 pm14 an14 cd14 ct14), sl14⟩) (c14 : PySem.W.codeIn K cd14 "_law_holds" = true) (k14 : PySem.W.keepIn K (.ref f14) = true)
    (a15 : PySem.W.nsIn K mainGlobals "_law_most" = some (some (.ref f15))) (l15 : K.lookup f15 = some ⟨oc15, od15, .func (PySem.W.fnOf "_law_most" "_law_most" (defArgs s_l_most) (defBody s_l_most) (defScope s_l_most) .none kV15 dc15 pm15 an15 cd15 ct15), sl15⟩) (c15 : PySem.W.codeIn K cd15 "_law_most" = true) (k15 : PySem.W.keepIn K (.ref f15) = true)
    (a16 : PySem.W.nsIn K mainGlobals "_law_all" = some (some (.ref f16))) (l16 : K.lookup f16 = some ⟨oc16, od16, .func (PySem.W.fnOf "_law_all" "_law_all" (defArgs s_l_all) (defBody s_l_all) (defScope s_l_all) .none kV16 dc16 pm16 an16 cd16 ct16), sl16⟩) (c16 : PySem.W.codeIn K cd16 "_law_all" = true) (k16 : PySem.W.keepIn K (.ref f16) = true)
    (a17 : PySem.W.nsIn K mainGlobals "law" = some (some (.ref f17))) (l17 : K.lookup f17 = some ⟨oc17, od17, .func (PySem.W.fnOf "law" "law" (defArgs s_law) (defBody s_law) (defScope s_law) .none kV17 dc17 pm17 an17 cd17 ct17), sl17⟩) (c17 : PySem.W.codeIn K cd17 "law" = true) (k17 : PySem.W.keepIn K (.ref f17) = true)
    (z_any : PySem.W.nsIn K mainGlobals "any" = some none)
    (z_int : PySem.W.nsIn K mainGlobals "int" = some none)
    (z_len : PySem.W.nsIn K mainGlobals "len" = some none)
    (z_max : PySem.W.nsIn K mainGlobals "max" = some none)
    (z_min : PySem.W.nsIn K mainGlobals "min" = some none)
    (z_range : PySem.W.nsIn K mainGlobals "range" = some none)
    (z_reversed : PySem.W.nsIn K mainGlobals "reversed" = some none)
    (z_tuple : PySem.W.nsIn K mainGlobals "tuple" = some none)
    (z_zip : PySem.W.nsIn K mainGlobals "zip" = some none)
    : ∃ fd : FuncData, (∀ (s : Shared) (v : Value), BindsTo s fd ⟨[v], []⟩ [("_law_script", v)]) ∧ ∀ base : Heap, K.In base → base.Ns mainGlobals mg → FnOk l.prog w K mg base CX0 205 fa fd ["_law_script"] (spF K Z0 1 F_law) := by
  have e := hfa.symm.trans (PySem.W.mg_of X G a17)
  cases e
  have F1 := fun_mk (st := s_inverse) l1 c1 k1
  have F2 := fun_mk (st := s_holds) l2 c2 k2
  have F3 := fun_mk (st := s_said) l3 c3 k3
  have F4 := fun_mk (st := s_said_least) l4 c4 k4
  have F5 := fun_mk (st := s_step_numbers) l5 c5 k5
  have F6 := fun_mk (st := s_inverse_of) l6 c6 k6
  have F7 := fun_mk (st := s_worth) l7 c7 k7
  have F8 := fun_mk (st := s_l_box) l8 c8 k8
  have F9 := fun_mk (st := s_l_take) l9 c9 k9
  have F10 := fun_mk (st := s_l_n) l10 c10 k10
  have F11 := fun_mk (st := s_l_worth) l11 c11 k11
  have F12 := fun_mk (st := s_l_shared) l12 c12 k12
  have F13 := fun_mk (st := s_l_saying) l13 c13 k13
  have F14 := fun_mk (st := s_l_holds) l14 c14 k14
  have F15 := fun_mk (st := s_l_most) l15 c15 k15
  have F16 := fun_mk (st := s_l_all) l16 c16 k16
  have F17 := fun_mk (st := s_law) l17 c17 k17
  have T : Tx K mg ⟨f1, (PySem.W.fnOf "inverse" "inverse" (defArgs s_inverse) (defBody s_inverse) (defScope s_inverse) .none kV1 dc1 pm1 an1 cd1 ct1), f2, (PySem.W.fnOf "holds" "holds" (defArgs s_holds) (defBody s_holds) (defScope s_holds) .none kV2 dc2 pm2 an2 cd2 ct2), f3, (PySem.W.fnOf "said" "said" (defArgs s_said) (defBody s_said) (defScope s_said) .none kV3 dc3 pm3 an3 cd3 ct3), f4, (PySem.W.fnOf "said_least" "said_least" (defArgs s_said_least) (defBody s_said_least) (defScope s_said_least) .none kV4 dc4 pm4 an4 cd4 ct4), f5, (PySem.W.fnOf "step_numbers" "step_numbers" (defArgs s_step_numbers) (defBody s_step_numbers) (defScope s_step_numbers) .none kV5 dc5 pm5 an5 cd5 ct5), f6, (PySem.W.fnOf "inverse_of" "inverse_of" (defArgs s_inverse_of) (defBody s_inverse_of) (defScope s_inverse_of) .none kV6 dc6 pm6 an6 cd6 ct6), f7, (PySem.W.fnOf "worth" "worth" (defArgs s_worth) (defBody s_worth) (defScope s_worth) .none kV7 dc7 pm7 an7 cd7 ct7), f8, (PySem.W.fnOf "_law_box" "_law_box" (defArgs s_l_box) (defBody s_l_box) (defScope s_l_box) .none kV8 dc8 pm8 an8 cd8 ct8), f9, (PySem.W.fnOf "_law_take" "_law_take" (defArgs s_l_take) (defBody s_l_take) (defScope s_l_take) .none kV9 dc9 pm9 an9 cd9 ct9), f10, (PySem.W.fnOf "_law_n" "_law_n" (defArgs s_l_n) (defBody s_l_n) (defScope s_l_n) .none kV10 dc10 pm10 an10 cd10 ct10), f11, (PySem.W.fnOf "_law_worth" "_law_worth" (defArgs s_l_worth) (defBody s_l_worth) (defScope s_l_worth) .none kV11 dc11 pm11 an11 cd11 ct11), f12, (PySem.W.fnOf "_law_shared" "_law_shared" (defArgs s_l_shared) (defBody s_l_shared) (defScope s_l_shared) .none kV12 dc12 pm12 an12 cd12 ct12), f13, (PySem.W.fnOf "_law_saying" "_law_saying" (defArgs s_l_saying) (defBody s_l_saying) (defScope s_l_saying) .none kV13 dc13 pm13 an13 cd13 ct13), f14, (PySem.W.fnOf "_law_holds" "_law_holds" (defArgs s_l_holds) (defBody s_l_holds) (defScope s_l_holds) .none kV14 dc14 pm14 an14 cd14 ct14), f15, (PySem.W.fnOf "_law_most" "_law_most" (defArgs s_l_most) (defBody s_l_most) (defScope s_l_most) .none kV15 dc15 pm15 an15 cd15 ct15), f16, (PySem.W.fnOf "_law_all" "_law_all" (defArgs s_l_all) (defBody s_l_all) (defScope s_l_all) .none kV16 dc16 pm16 an16 cd16 ct16), fa, (PySem.W.fnOf "law" "law" (defArgs s_law) (defBody s_law) (defScope s_law) .none kV17 dc17 pm17 an17 cd17 ct17)⟩ :=
    ⟨F1, F1.binds (ps := ["n", "k"]) (fun _ _ _ _ _ _ us hl => match us, hl with | [_, _], _ => rfl), k1, PySem.W.mg_of X G a1,
     F2, F2.binds (ps := ["saying", "answers"]) (fun _ _ _ _ _ _ us hl => match us, hl with | [_, _], _ => rfl), k2, PySem.W.mg_of X G a2,
     F3, F3.binds (ps := ["n", "saying"]) (fun _ _ _ _ _ _ us hl => match us, hl with | [_, _], _ => rfl), k3, PySem.W.mg_of X G a3,
     F4, F4.binds (ps := ["n", "k", "parts"]) (fun _ _ _ _ _ _ us hl => match us, hl with | [_, _, _], _ => rfl), k4, PySem.W.mg_of X G a4,
     F5, F5.binds (ps := ["n", "row"]) (fun _ _ _ _ _ _ us hl => match us, hl with | [_, _], _ => rfl), k5, PySem.W.mg_of X G a5,
     F6, F6.binds (ps := ["n", "number"]) (fun _ _ _ _ _ _ us hl => match us, hl with | [_, _], _ => rfl), k6, PySem.W.mg_of X G a6,
     F7, F7.binds (ps := ["n", "expr", "givens"]) (fun _ _ _ _ _ _ us hl => match us, hl with | [_, _, _], _ => rfl), k7, PySem.W.mg_of X G a7,
     F8, F8.binds (ps := ["_law_script", "_law_k"]) (fun _ _ _ _ _ _ us hl => match us, hl with | [_, _], _ => rfl), k8, PySem.W.mg_of X G a8,
     F9, F9.binds (ps := ["_law_box_here", "_law_many"]) (fun _ _ _ _ _ _ us hl => match us, hl with | [_, _], _ => rfl), k9, PySem.W.mg_of X G a9,
     F10, F10.binds (ps := ["_law_box_here"]) (fun _ _ _ _ _ _ us hl => match us, hl with | [_], _ => rfl), k10, PySem.W.mg_of X G a10,
     F11, F11.binds (ps := ["_law_n_here", "_law_expr", "_law_given"]) (fun _ _ _ _ _ _ us hl => match us, hl with | [_, _, _], _ => rfl), k11, PySem.W.mg_of X G a11,
     F12, F12.binds (ps := ["_law_one", "_law_other"]) (fun _ _ _ _ _ _ us hl => match us, hl with | [_, _], _ => rfl), k12, PySem.W.mg_of X G a12,
     F13, F13.binds (ps := ["_law_box_here", "_law_givens", "_law_room"]) (fun _ _ _ _ _ _ us hl => match us, hl with | [_, _, _], _ => rfl), k13, PySem.W.mg_of X G a13,
     F14, F14.binds (ps := ["_law_saying_here", "_law_answers"]) (fun _ _ _ _ _ _ us hl => match us, hl with | [_, _], _ => rfl), k14, PySem.W.mg_of X G a14,
     F15, F15.binds (ps := ["_law_saying_here"]) (fun _ _ _ _ _ _ us hl => match us, hl with | [_], _ => rfl), k15, PySem.W.mg_of X G a15,
     F16, F16.binds (ps := ["_law_many"]) (fun _ _ _ _ _ _ us hl => match us, hl with | [_], _ => rfl), k16, PySem.W.mg_of X G a16,
     F17, F17.binds (ps := ["_law_script"]) (fun _ _ _ _ _ _ us hl => match us, hl with | [_], _ => rfl), k17, PySem.W.mg_of X G a17, PySem.W.mg_none_of X G z_any, PySem.W.mg_none_of X G z_int, PySem.W.mg_none_of X G z_len, PySem.W.mg_none_of X G z_max, PySem.W.mg_none_of X G z_min, PySem.W.mg_none_of X G z_range, PySem.W.mg_none_of X G z_reversed, PySem.W.mg_none_of X G z_tuple, PySem.W.mg_none_of X G z_zip⟩
  exact ⟨_, fun s v => .of_eq rfl, fun base _ _ => (ok_law T).mono (by omega)⟩
theorem the_walk {l : PySem.W.OpenLaw} {q : Program} {loose : List Str} {XP : (Str → Option Value) → Heap → Prop} {YP : World → Heap → Prop} {d : DefRec} {K : Params → PySem.W.Frag} (hn : l.most = some 63) (hdf : d.params.defaults = [])
    (hY : ∀ (w : World) (h : Heap), YP w h → (K w.params).In h)
    (F : ∀ (w : World) (mg : Str → Option Value) (fa : Addr) (h : Heap), (K w.params).In h → h.Ns mainGlobals mg → mg d.name = some (.ref fa) →
      ∃ fd : FuncData, (∀ (s : Shared) (u : Value), BindsTo s fd ⟨[u], []⟩ [("_law_script", u)]) ∧ ∀ base : Heap, (K w.params).In base → base.Ns mainGlobals mg → FnOk l.prog w (K w.params) mg base CX0 205 fa fd ["_law_script"] (spF (K w.params) Z0 1 F_law)) :
    PySem.W.WalkO q loose XP YP l.row.toRowW d [] (fun f vs => PySem.call f vs) :=
  L2.walk_of (n := 63) (k := 205) (x := "_law_script") (CX := fun _ => CX0) (sp := fun w => spF (K w.params) Z0 1 F_law) hn (by decide) hdf ⟨rfl, by decide, by decide⟩ hY F (fun _ _ a ns hl hO hS => law_sp hO hS (law_math ns hl)) fun _ _ _ _ _ z => z
end K37
open PySem PySem.W PyProof.Rows
set_option maxRecDepth 100000 in
set_option maxHeartbeats 0 in
theorem PySem.Challenge.cw_lentshelf_k37_whole_sayings_worth_one_or_holds : PySem.Challenge.rw_lentshelf_k37_whole_sayings_worth_one_or.Holds := by
  w_on; o_law; k_head; (case hw => w_witness2)
  k_fill
  refine K37.the_walk (l := PySem.Challenge.rw_lentshelf_k37_whole_sayings_worth_one_or) rfl rfl (fun w h Y => PySem.W.kIn_of Y) ?F
  case F =>
    intro w mg fa h KX G hmg
    refine' K37.all_mk KX G hmg ?a1 ?l1 ?c1 ?k1 ?a2 ?l2 ?c2 ?k2 ?a3 ?l3 ?c3 ?k3 ?a4 ?l4 ?c4 ?k4 ?a5 ?l5 ?c5 ?k5 ?a6 ?l6 ?c6 ?k6 ?a7 ?l7 ?c7 ?k7 ?a8 ?l8 ?c8 ?k8 ?a9 ?l9 ?c9 ?k9 ?a10 ?l10 ?c10 ?k10 ?a11 ?l11 ?c11 ?k11 ?a12 ?l12 ?c12 ?k12 ?a13 ?l13 ?c13 ?k13 ?a14 ?l14 ?c14 ?k14 ?a15 ?l15 ?c15 ?k15 ?a16 ?l16 ?c16 ?k16 ?a17 ?l17 ?c17 ?k17 ?z_any ?z_int ?z_len ?z_max ?z_min ?z_range ?z_reversed ?z_tuple ?z_zip
    (case a1 => k_is)
    (case l1 => k_is)
    (case c1 => k_is)
    (case k1 => k_is)
    (case a2 => k_is)
    (case l2 => k_is)
    (case c2 => k_is)
    (case k2 => k_is)
    (case a3 => k_is)
    (case l3 => k_is)
    (case c3 => k_is)
    (case k3 => k_is)
    (case a4 => k_is)
    (case l4 => k_is)
    (case c4 => k_is)
    (case k4 => k_is)
    (case a5 => k_is)
    (case l5 => k_is)
    (case c5 => k_is)
    (case k5 => k_is)
    (case a6 => k_is)
    (case l6 => k_is)
    (case c6 => k_is)
    (case k6 => k_is)
    (case a7 => k_is)
    (case l7 => k_is)
    (case c7 => k_is)
    (case k7 => k_is)
    (case a8 => k_is)
    (case l8 => k_is)
    (case c8 => k_is)
    (case k8 => k_is)
    (case a9 => k_is)
    (case l9 => k_is)
    (case c9 => k_is)
    (case k9 => k_is)
    (case a10 => k_is)
    (case l10 => k_is)
    (case c10 => k_is)
    (case k10 => k_is)
    (case a11 => k_is)
    (case l11 => k_is)
    (case c11 => k_is)
    (case k11 => k_is)
    (case a12 => k_is)
    (case l12 => k_is)
    (case c12 => k_is)
    (case k12 => k_is)
    (case a13 => k_is)
    (case l13 => k_is)
    (case c13 => k_is)
    (case k13 => k_is)
    (case a14 => k_is)
    (case l14 => k_is)
    (case c14 => k_is)
    (case k14 => k_is)
    (case a15 => k_is)
    (case l15 => k_is)
    (case c15 => k_is)
    (case k15 => k_is)
    (case a16 => k_is)
    (case l16 => k_is)
    (case c16 => k_is)
    (case k16 => k_is)
    (case a17 => k_is)
    (case l17 => k_is)
    (case c17 => k_is)
    (case k17 => k_is)
    (case z_any => k_is)
    (case z_int => k_is)
    (case z_len => k_is)
    (case z_max => k_is)
    (case z_min => k_is)
    (case z_range => k_is)
    (case z_reversed => k_is)
    (case z_tuple => k_is)
    (case z_zip => k_is)
