import PyProof.Rows.All
import Wide.All
import OpenK.AllK
import Wide.FinOn
import Lean
import PyProof.EqAt
import PyProof.EqKinds
import PyProof.TupleCall
import PySem.Challenge.RW_fewsums_k09_shortest_chains
set_option Elab.async false
set_option linter.all false
set_option maxRecDepth 100000
/-! THE HAND LAYER, for ints, bools, texts, own classes, LISTS and tuples (index, slices, in, append, pop ..), calls, loops. Paste it whole ahead of your own text; what your proof does not reach may be deleted. -/
namespace L2
open PySem PySem.Spec PyProof.Rows

/-- a key: an int or a str -/
abbrev Key := Sum Int Str
def keyIs : Key → Value → Bool
  | .inl k, v => Value.isInt k v
  | .inr x, v => Value.isStrOf x v
def keyH (w : World) : Key → Int
  | .inl k => hashInt k
  | .inr x => hashStr w x
theorem keyIs_shape : ∀ {k : Key} {v : Value}, keyIs k v = true → (∃ i t, k = Sum.inl i ∧ v = Value.int i t) ∨ (∃ x t, k = Sum.inr x ∧ v = Value.str x t)
  | .inl i, v, h => by
    obtain ⟨t, e⟩ := Value.isInt_shape (k := i) (v := v) h
    exact .inl ⟨i, t, rfl, e⟩
  | .inr x, v, h => by
    obtain ⟨t, e⟩ := Value.isStrOf_shape (x := x) (v := v) h
    exact .inr ⟨x, t, rfl, e⟩
theorem keyIs_int (i : Int) (t : Tok) : keyIs (.inl i) (.int i t) = true := by simp [keyIs, Value.isInt]
theorem keyIs_str (x : Str) (t : Tok) : keyIs (.inr x) (.str x t) = true := by simp [keyIs, Value.isStrOf]
theorem key_ll (a b : Int) : decide ((Sum.inl a : Key) = Sum.inl b) = (a == b) := by
  by_cases e : a = b
  · subst e; simp
  · have h : ¬ (Sum.inl a : Key) = Sum.inl b := fun q => e (Sum.inl.inj q)
    rw [decide_eq_false h]
    exact (beq_eq_false_iff_ne.mpr e).symm
theorem key_rr (a b : Str) : decide ((Sum.inr a : Key) = Sum.inr b) = decide (a = b) := by
  by_cases e : a = b
  · subst e; simp
  · have h : ¬ (Sum.inr a : Key) = Sum.inr b := fun q => e (Sum.inr.inj q)
    rw [decide_eq_false h, decide_eq_false e]
theorem key_lr (a : Int) (b : Str) : decide ((Sum.inl a : Key) = Sum.inr b) = false := decide_eq_false (fun q => nomatch q)
theorem key_rl (a : Str) (b : Int) : decide ((Sum.inr a : Key) = Sum.inl b) = false := decide_eq_false (fun q => nomatch q)

def mixKind (prog : Program) (w : World) : PySem.KeyKind prog w Key where
  is := keyIs
  hash := keyH w
  inj := fun v a b ha hb => by
    rcases keyIs_shape ha with ⟨i, t, rfl, rfl⟩ | ⟨x, t, rfl, rfl⟩
    · rcases keyIs_shape hb with ⟨j, u, rfl, e⟩ | ⟨y, u, rfl, e⟩
      · injection e with e1 _; rw [e1]
      · exact nomatch e
    · rcases keyIs_shape hb with ⟨j, u, rfl, e⟩ | ⟨y, u, rfl, e⟩
      · exact nomatch e
      · injection e with e1 _; rw [e1]
  byValue := fun k v h => by
    rcases keyIs_shape h with ⟨i, t, rfl, rfl⟩ | ⟨x, t, rfl, rfl⟩ <;> rfl
  pyHash := fun hv h => by
    rcases keyIs_shape hv with ⟨i, t, rfl, rfl⟩ | ⟨x, t, rfl, rfl⟩
    · exact wpAny_pyHash_int h
    · exact wpAny_pyHash_str h
  eqBool := fun hu hv h => by
    rcases keyIs_shape hu with ⟨i, t, rfl, rfl⟩ | ⟨x, t, rfl, rfl⟩
    · rcases keyIs_shape hv with ⟨j, u, rfl, rfl⟩ | ⟨y, u, rfl, rfl⟩
      · rw [key_ll] at h; exact wpAny_eqBool_int h
      · rw [key_lr] at h; exact SeqAt.EqAt.int_str i t y u _ _ _ _ h
    · rcases keyIs_shape hv with ⟨j, u, rfl, rfl⟩ | ⟨y, u, rfl, rfl⟩
      · rw [key_rl] at h; exact SeqAt.EqAt.str_int x t j u _ _ _ _ h
      · rw [key_rr] at h; exact wpAny_eqBool_str h
  «strs» := fun k x t v h => by
    rcases keyIs_shape h with ⟨i, u, rfl, e⟩ | ⟨y, u, rfl, e⟩
    · exact nomatch e
    · injection e with e1 _
      subst e1
      cases v <;> rfl

theorem mixKind_int (prog : Program) (w : World) (i : Int) (t : Tok) : (mixKind prog w).is (.inl i) (.int i t) = true := keyIs_int i t
theorem mixKind_str (prog : Program) (w : World) (x : Str) (t : Tok) : (mixKind prog w).is (.inr x) (.str x t) = true := keyIs_str x t
end L2

namespace L2
open PySem PySem.Spec PyProof.Rows

/-- a value, without the heap -/
inductive V where
  | non | bl (b : Bool) | int (i : Int) | str (x : Str) | byt (b : Array UInt8) | flt (b : UInt64) | ref (a : Addr) | ty (n : String)
  deriving DecidableEq

def RelV : V → Value → Prop
  | .non, u => u = Value.none
  | .bl b, u => u = Value.bool b
  | .int i, u => ∃ t, u = Value.int i t
  | .str x, u => ∃ t, u = Value.str x t
  | .byt b, u => ∃ t, u = Value.bytes b t
  | .flt b, u => ∃ t, u = Value.float b t
  | .ref a, u => u = Value.ref a
  | .ty n, u => u = Value.type n

abbrev Vals : List V → List Value → Prop := Paired RelV
theorem Vals.length {xs : List V} {us : List Value} (r : Vals xs us) : xs.length = us.length := Paired.length r
theorem Vals.get : ∀ {xs : List V} {us : List Value} {i : Nat} {x : V}, Vals xs us → xs[i]? = some x → ∃ u, us[i]? = some u ∧ RelV x u
  | _, _, _, _, .nil, e => by simp at e
  | _, _, 0, _, .cons r _, e => by simp at e; subst e; exact ⟨_, rfl, r⟩
  | _, _, i + 1, x, .cons _ t, e => by
    obtain ⟨u, h1, h2⟩ := Vals.get (i := i) (x := x) t (by simpa using e)
    exact ⟨u, by simpa using h1, h2⟩
theorem Vals.set {x : V} {u : Value} (r : RelV x u) : ∀ {xs : List V} {us : List Value} (i : Nat), Vals xs us → Vals (xs.set i x) (us.set i u)
  | _, _, _, .nil => .nil
  | _, _, 0, .cons _ t => .cons r t
  | _, _, i + 1, .cons q t => .cons q (Vals.set r i t)
theorem Vals.append : ∀ {xs ys : List V} {us ws : List Value}, Vals xs us → Vals ys ws → Vals (xs ++ ys) (us ++ ws)
  | _, _, _, _, .nil, s => s
  | _, _, _, _, .cons r t, s => .cons r (Vals.append t s)
theorem Vals.take : ∀ {xs : List V} {us : List Value} (n : Nat), Vals xs us → Vals (xs.take n) (us.take n)
  | _, _, 0, _ => .nil
  | _, _, _ + 1, .nil => .nil
  | _, _, n + 1, .cons r t => .cons r (Vals.take n t)
theorem Vals.drop : ∀ {xs : List V} {us : List Value} (n : Nat), Vals xs us → Vals (xs.drop n) (us.drop n)
  | _, _, 0, r => r
  | _, _, _ + 1, .nil => .nil
  | _, _, n + 1, .cons _ t => Vals.drop n t
def RelO : Option V → Option Value → Prop
  | some v, some u => RelV v u
  | none, none => True
  | _, _ => False
def KV {κ : Type} : List (κ × V) → List (κ × Value) → Prop := Paired fun (p : κ × V) (q : κ × Value) => p.1 = q.1 ∧ RelV p.2 q.2

/-- a key of a dict (00_mix): an int or a text -/
def kV : Key → V
  | .inl i => .int i
  | .inr x => .str x

/-- what stands at a tracked address -/
inductive HO where
  /-- a list -/
  | lst (xs : List V)
  /-- a tuple (never changes) -/
  | tup (xs : List V)
  /-- a dict whose keys are ints and texts; one whose keys are tuples of ints and texts (the empty one is both) -/
  | dK (kvs : List (Key × V)) | dT (kvs : List (List Key × V))
  /-- a set of ints: its members, its size -/
  | set (S : Int → Bool) (n : Nat)
  /-- an instance of the class at C, its dict at dx, its attributes -/
  | ins (C dx : Addr) (fs : List (Str × V))
  /-- the dict of the instance at x -/
  | own (x : Addr)
  /-- the dict of an exception -/
  | xd (fs : List (Str × V))
  /-- a bound method, f of x -/
  | met (f x : Addr)
  /-- a range object lo, lo + 1, .. below hi -/
  | rng (lo hi : Int)
  /-- a thing that is known to the object (the script; a dict while a loop walks it): read, never written while it is so -/
  | frz (o : Obj) (u : HO)
  /-- a code object's table -/
  | tbl (ps : Array Value)
  /-- any other thing, by what is true of its one object (a def of one's own: SetO a S n := HO.ext fun h => ..) -/
  | ext (φ : Heap → Prop)

abbrev Hp := Addr → Option HO
def upd (H : Hp) (a : Addr) (o : HO) : Hp := fun b => if b = a then some o else H b
theorem upd_same {H : Hp} {a : Addr} {o : HO} : upd H a o a = some o := by unfold upd; rw [if_pos rfl]
theorem upd_ne {H : Hp} {a b : Addr} {o : HO} (h : b ≠ a) : upd H a o b = H b := by unfold upd; rw [if_neg h]
/-- two objects of different content stand apart -/
theorem ne_of {H : Hp} {a b : Addr} {o u : HO} (h : H a = some o) (h' : H b = some u) (d : o ≠ u) : a ≠ b := by
  intro e; subst e; rw [h] at h'; exact d (Option.some.inj h')
theorem ne_of_none {H : Hp} {a b : Addr} {o : HO} (h : H a = some o) (h' : H b = none) : a ≠ b := by
  intro e; subst e; rw [h] at h'; cases h'

section
variable (P : Program) (w : World)
def ObjOk (H : Hp) (h : Heap) (a : Addr) : HO → Prop
  | .lst xs => xs.length ≤ sizeLine ∧ ∃ (its : List Value) (n : Nat), Vals xs its ∧ h.get? a = some { cls := .type "list", data := .seq its.toArray n }
  | .tup xs => xs.length ≤ sizeLine ∧ ∃ its : List Value, Vals xs its ∧ IsTup h a its.toArray
  | .dK kvs => kvs.length ≤ sizeLine ∧ (a == sysModules) = false ∧ ∃ vs, KV kvs vs ∧ h.DictOf (mixKind P w) a vs
  | .dT kvs => kvs.length ≤ sizeLine ∧ (a == sysModules) = false ∧ ∃ xs : List (List Key × Addr × Value),
      Paired (fun (p : List Key × V) (q : List Key × Addr × Value) => p.1 = q.1 ∧ H q.2.1 = some (.tup (p.1.map kV)) ∧ RelV p.2 q.2.2) kvs xs ∧
      ∃ o es ep, h.get? a = some o ∧ o.ExactDict ∧ o.data = .dict es ep ∧ es.toList = xs.map (entryOfKey (tupleKind (mixKind P w))) ∧ (xs.map (·.1)).Nodup
  | .set S n => h.SetOf (intKind P w) a S n
  | .ins C dx fs => H dx = some (.own a) ∧ fs.length ≤ 1000 ∧ dx ≠ a ∧ h.get? a = some (PySem.W.instObj C dx) ∧
      ∃ mA, h.Ns1 dx mA ∧ (∀ f, RelO (fs.lookup f) (mA f)) ∧ PySem.Within mA (fs.map (·.1))
  | .own _ => ∃ o, h.get? a = some o
  | .xd fs => ∃ mA, h.Ns1 a mA ∧ ∀ f, RelO (fs.lookup f) (mA f)
  | .rng lo hi => ∃ t u v, h.get? a = some { cls := .type "range", data := .fields #[.int lo t, .int hi u, .int 1 v] }
  | .frz o u => h.get? a = some o ∧ ObjOk H h a u
  | .tbl ps => h.get? a = some { cls := .none, data := .fields ps }
  | .met f x => h.get? a = some (PySem.W.methodObj (.ref f) (.ref x))
  | .ext φ => φ h ∧ (∃ o, h.get? a = some o) ∧ ∀ h1 h2 : Heap, φ h1 → (∀ o, h1.get? a = some o → h2.get? a = some o) → φ h2
/-- the abstract heap is held -/
def HOk (H : Hp) (h : Heap) : Prop := ∀ a o, H a = some o → ObjOk P w H h a o
end

section
variable {P : Program} {w : World} {H H' : Hp} {h h' : Heap} {a : Addr} {o : HO}
theorem ObjOk.lt (x : ObjOk P w H h a o) : a < h.objs.size := by
  cases o with
  | lst xs => obtain ⟨_, _, _, _, e⟩ := x; exact Heap.lt_size e
  | tup xs => obtain ⟨_, _, _, p⟩ := x; exact p.lt
  | dK kvs => obtain ⟨_, _, _, _, o, _, _, e, _⟩ := x; exact Heap.lt_size e
  | dT kvs => obtain ⟨_, _, _, _, o, _, _, e, _⟩ := x; exact Heap.lt_size e
  | set S n => obtain ⟨o, _, _, _, e, _⟩ := x; exact Heap.lt_size e
  | ins C dx fs => obtain ⟨_, _, _, e, _⟩ := x; exact Heap.lt_size e
  | own y => obtain ⟨_, e⟩ := x; exact Heap.lt_size e
  | xd fs => obtain ⟨_, ⟨_, _, _, e, _⟩, _⟩ := x; exact Heap.lt_size e
  | rng lo hi => obtain ⟨_, _, _, e⟩ := x; exact Heap.lt_size e
  | frz ob u => obtain ⟨e, _⟩ := x; exact Heap.lt_size e
  | tbl ps => exact Heap.lt_size (show h.get? a = some _ from x)
  | met f y => exact Heap.lt_size (show h.get? a = some _ from x)
  | ext φ => obtain ⟨_, ⟨_, e⟩, _⟩ := x; exact Heap.lt_size e
theorem Paired.mapP {α β : Type} {F G : α → β → Prop} : ∀ {l₁ : List α} {l₂ : List β}, Paired F l₁ l₂ → (∀ a b, F a b → G a b) → Paired G l₁ l₂
  | _, _, .nil, _ => .nil
  | _, _, .cons r t, f => .cons (f _ _ r) (Paired.mapP t f)
/-- what an object's description leans on: its own object, its own dict, the tuples -/
theorem ObjOk.stay (x : ObjOk P w H h a o) (k : ∀ b u, (b = a ∨ H b = some (.own a)) → h.get? b = some u → h'.get? b = some u)
    (ho : ∀ b, H b = some (.own a) → H' b = some (.own a)) (ht : ∀ b xs, H b = some (.tup xs) → H' b = some (.tup xs)) : ObjOk P w H' h' a o := by
  induction o with
  | lst xs => obtain ⟨z, its, n, r, e⟩ := x; exact ⟨z, its, n, r, k _ _ (.inl rfl) e⟩
  | tup xs => obtain ⟨z, its, r, ob, e, c⟩ := x; exact ⟨z, its, r, ob, k _ _ (.inl rfl) e, c⟩
  | dK kvs => obtain ⟨z, y, vs, r, ob, es, ep, e, c⟩ := x; exact ⟨z, y, vs, r, ob, es, ep, k _ _ (.inl rfl) e, c⟩
  | dT kvs =>
    obtain ⟨z, y, xs, r, ob, es, ep, e, c⟩ := x
    exact ⟨z, y, xs, Paired.mapP r fun p q z => ⟨z.1, ht _ _ z.2.1, z.2.2⟩, ob, es, ep, k _ _ (.inl rfl) e, c⟩
  | set S n => obtain ⟨ob, es, ep, t, e, c⟩ := x; exact ⟨ob, es, ep, t, k _ _ (.inl rfl) e, c⟩
  | ins C dx fs =>
    obtain ⟨d, z, ne, e, mA, ⟨od, es, ep, e2, c⟩, r⟩ := x
    exact ⟨ho _ d, z, ne, k _ _ (.inl rfl) e, mA, ⟨od, es, ep, k _ _ (.inr d) e2, c⟩, r⟩
  | own y => obtain ⟨ob, e⟩ := x; exact ⟨ob, k _ _ (.inl rfl) e⟩
  | xd fs => obtain ⟨mA, ⟨od, es, ep, e, c⟩, r⟩ := x; exact ⟨mA, ⟨od, es, ep, k _ _ (.inl rfl) e, c⟩, r⟩
  | rng lo hi => obtain ⟨t, u, v, e⟩ := x; exact ⟨t, u, v, k _ _ (.inl rfl) e⟩
  | frz ob u ih => obtain ⟨e, q⟩ := x; exact ⟨k _ _ (.inl rfl) e, ih q⟩
  | tbl ps =>
    have e : h.get? a = some { cls := .none, data := .fields ps } := x
    show h'.get? a = some { cls := .none, data := .fields ps }
    exact k a _ (.inl rfl) e
  | met f y =>
    have e : h.get? a = some (PySem.W.methodObj (.ref f) (.ref y)) := x
    show h'.get? a = some (PySem.W.methodObj (.ref f) (.ref y))
    exact k a _ (.inl rfl) e
  | ext φ => obtain ⟨p, ⟨o, e⟩, st⟩ := x; exact ⟨st _ _ p fun o q => k _ _ (.inl rfl) q, ⟨o, k _ _ (.inl rfl) e⟩, st⟩
theorem HOk.lt (x : HOk P w H h) (e : H a = some o) : a < h.objs.size := (x a o e).lt
theorem HOk.fresh (x : HOk P w H h) (e : h.objs.size ≤ a) : H a = none := by
  cases q : H a with
  | none => rfl
  | some u => exact absurd (Nat.lt_of_lt_of_le (x.lt q) e) (Nat.lt_irrefl _)
/-- every object of the heap is kept -/
theorem HOk.kept (x : HOk P w H h) (k : ∀ b u, h.get? b = some u → h'.get? b = some u) : HOk P w H h' := fun a o e =>
  (x a o e).stay (fun b u _ q => k b u q) (fun _ q => q) fun _ _ q => q
/-- a new object is laid and tracked -/
theorem HOk.laid (x : HOk P w H h) (k : ∀ b u, h.get? b = some u → h'.get? b = some u) (hp : h.objs.size ≤ a) (new : ObjOk P w (upd H a o) h' a o) : HOk P w (upd H a o) h' := fun b u e => by
  have hn := x.fresh hp
  by_cases hb : b = a
  · subst hb; rw [upd_same] at e; cases e; exact new
  · rw [upd_ne hb] at e
    exact (x b u e).stay (fun c v _ q => k c v q) (fun c q => by rw [upd_ne (ne_of_none q hn)]; exact q) fun c xs q => by rw [upd_ne (ne_of_none q hn)]; exact q
end

/-- what may be read as u: it is u, or a known u -/
def Rd (H : Hp) (a : Addr) (u : HO) : Prop := H a = some u ∨ ∃ o, H a = some (.frz o u)
theorem Rd.of {H : Hp} {a : Addr} {u : HO} (h : H a = some u) : Rd H a u := .inl h
theorem Rd.ok {P : Program} {w : World} {H : Hp} {h : Heap} {a : Addr} {u : HO} (r : Rd H a u) (x : HOk P w H h) : ObjOk P w H h a u := by
  rcases r with r | ⟨o, r⟩
  · exact x a u r
  · obtain ⟨_, q⟩ := x a _ r
    exact q
/-- what may be written -/
def Mut : Option HO → Prop
  | some (.lst _) => True
  | some (.dK _) => True
  | some (.dT _) => True
  | some (.set _ _) => True
  | some (.ins _ _ _) => True
  | some (.ext _) => True
  | _ => False
section
variable {P : Program} {w : World} {H : Hp} {h h' : Heap} {x e : Addr} {o' : HO}
/-- the object at e is changed: x itself, or the dict of the instance x -/
theorem HOk.write (ok : HOk P w H h) (mu : Mut (H x)) (he : e = x ∨ H e = some (.own x)) (k : ∀ b u, b ≠ e → h.get? b = some u → h'.get? b = some u) (heo : ∃ u, h'.get? e = some u)
    (new : ObjOk P w (upd H x o') h' x o') : HOk P w (upd H x o') h' := fun b u q => by
  have nown : ∀ c y, H c = some (.own y) → c ≠ x := fun c y r z => by subst z; rw [r] at mu; exact mu
  have ntup : ∀ c xs, H c = some (.tup xs) → c ≠ x := fun c xs r z => by subst z; rw [r] at mu; exact mu
  by_cases hb : b = x
  · subst hb; rw [upd_same] at q; cases q; exact new
  · rw [upd_ne hb] at q
    by_cases hbe : b = e
    · have q' : H b = some (.own x) := by
        rcases he with z | z
        · exact absurd (hbe.trans z) hb
        · rw [hbe]; exact z
      rw [q] at q'; cases q'
      obtain ⟨v, hv⟩ := heo
      exact ⟨v, by rw [hbe]; exact hv⟩
    · refine (ok b u q).stay (fun c v hc r => k c v ?_ r) (fun c r => by rw [upd_ne (nown c b r)]; exact r) fun c xs r => by rw [upd_ne (ntup c xs r)]; exact r
      rcases hc with rfl | hc
      · exact hbe
      · rintro rfl
        rcases he with z | z
        · exact nown c b hc z
        · rw [hc] at z; cases z; exact hb rfl
end

/-! ### kept unless tracked; of the frames at fs (the callers') the slots may change (an exception that passes writes there); of the records at ex (iterators) nothing is said -/
structure Un (fs ex : List Addr) (H H' : Hp) (h h' : Heap) : Prop where
  keep : ∀ b o, h.get? b = some o → H b = none → b ∉ fs → b ∉ ex → h'.get? b = some o
  slot : ∀ b o, h.get? b = some o → H b = none → b ∈ fs → b ∉ ex → ∃ sl, h'.get? b = some { o with slots := sl }
  free : ∀ b o, h.get? b = some o → H b = none → b ∉ ex → H' b = none
  there : ∀ b o, h.get? b = some o → b ∉ ex → ∃ o', h'.get? b = some o'
  tups : ∀ b xs, H b = some (.tup xs) → H' b = some (.tup xs)
  frzs : ∀ b o u, H b = some (.frz o u) → H' b = some (.frz o u)
  tbls : ∀ b ps, H b = some (.tbl ps) → ∃ more, H' b = some (.tbl (ps ++ more))
section
variable {fs fs' ex ex' : List Addr} {H H1 H2 : Hp} {h h1 h2 h' : Heap} {a x e : Addr} {o : HO}
theorem Un.any (u : Un fs ex H H1 h h1) {b : Addr} {ob : Obj} (q : h.get? b = some ob) (n : H b = none) (hx : b ∉ ex) : ∃ sl, h1.get? b = some { ob with slots := sl } := by
  by_cases hb : b ∈ fs
  · exact u.slot b ob q n hb hx
  · exact ⟨ob.slots, u.keep b ob q n hb hx⟩
theorem Un.trans (a : Un fs ex H H1 h h1) (b : Un fs ex H1 H2 h1 h2) : Un fs ex H H2 h h2 where
  keep := fun c ob q n hc hx => b.keep c ob (a.keep c ob q n hc hx) (a.free c ob q n hx) hc hx
  slot := fun c ob q n hc hx => by
    obtain ⟨sl, e1⟩ := a.slot c ob q n hc hx
    obtain ⟨sl', e2⟩ := b.slot c _ e1 (a.free c ob q n hx) hc hx
    exact ⟨sl', e2⟩
  free := fun c ob q n hx => by
    obtain ⟨o', e1⟩ := a.there c ob q hx
    exact b.free c o' e1 (a.free c ob q n hx) hx
  there := fun c ob q hx => by
    obtain ⟨o', e1⟩ := a.there c ob q hx
    exact b.there c o' e1 hx
  tups := fun c xs q => b.tups c xs (a.tups c xs q)
  frzs := fun c ob xs q => b.frzs c ob xs (a.frzs c ob xs q)
  tbls := fun c ps q => by
    obtain ⟨m1, e1⟩ := a.tbls c ps q
    obtain ⟨m2, e2⟩ := b.tbls c _ e1
    exact ⟨m1 ++ m2, by rw [e2, Array.append_assoc]⟩
theorem Un.kept (k : ∀ b u, h.get? b = some u → h'.get? b = some u) : Un fs ex H H h h' :=
  ⟨fun b ob q _ _ _ => k b ob q, fun b ob q _ _ _ => ⟨ob.slots, k b ob q⟩, fun _ _ _ n _ => n, fun b ob q _ => ⟨ob, k b ob q⟩, fun _ _ q => q, fun _ _ _ q => q, fun _ ps q => ⟨#[], by rw [q]; simp⟩⟩
theorem Un.refl : Un fs ex H H h h := Un.kept fun _ _ q => q
theorem Un.laid (k : ∀ b u, h.get? b = some u → h'.get? b = some u) (hp : h.objs.size ≤ a) (hn : H a = none) : Un fs ex H (upd H a o) h h' where
  keep := fun b u q _ _ _ => k b u q
  slot := fun b u q _ _ _ => ⟨u.slots, k b u q⟩
  free := fun b u q n _ => by rw [upd_ne (Nat.ne_of_lt (Nat.lt_of_lt_of_le (Heap.lt_size q) hp))]; exact n
  there := fun b u q _ => ⟨u, k b u q⟩
  tups := fun b xs q => by rw [upd_ne (ne_of_none q hn)]; exact q
  frzs := fun b u xs q => by rw [upd_ne (ne_of_none q hn)]; exact q
  tbls := fun b ps q => ⟨#[], by rw [upd_ne (ne_of_none q hn), q]; simp⟩
theorem Un.write (mu : Mut (H x)) (he : e = x ∨ H e = some (.own x)) (k : ∀ b u, b ≠ e → h.get? b = some u → h'.get? b = some u) (heo : ∃ u, h'.get? e = some u) : Un fs ex H (upd H x o) h h' := by
  have hx : ∀ b, H b = none → b ≠ x := fun b n z => by subst z; rw [n] at mu; exact mu
  have hb : ∀ b, H b = none → b ≠ e := fun b n z => by
    subst z
    rcases he with r | r
    · exact hx b n r
    · rw [n] at r; cases r
  have hm : ∀ b u, H b = some u → ¬ Mut (some u) → b ≠ x := fun b u q nm z => by subst z; rw [q] at mu; exact nm mu
  refine ⟨fun b u q n _ _ => k b u (hb b n) q, fun b u q n _ _ => ⟨u.slots, k b u (hb b n) q⟩, fun b u q n _ => by rw [upd_ne (hx b n)]; exact n, fun b u q _ => ?_,
    fun b xs q => by rw [upd_ne (hm b _ q fun z => z)]; exact q, fun b u xs q => by rw [upd_ne (hm b _ q fun z => z)]; exact q, fun b ps q => ⟨#[], by rw [upd_ne (hm b _ q fun z => z), q]; simp⟩⟩
  by_cases hbe : b = e
  · subst hbe; exact heo
  · exact ⟨u, k b u hbe q⟩
theorem Un.mono (u : Un fs ex H H1 h h1) (hs : ∀ b ∈ fs, b ∈ fs') (hx : ∀ b ∈ ex, b ∈ ex') : Un fs' ex' H H1 h h1 :=
  ⟨fun b ob q n hb he => u.keep b ob q n (fun z => hb (hs b z)) fun z => he (hx b z), fun _ _ q n _ he => u.any q n fun z => he (hx _ z), fun b ob q n he => u.free b ob q n fun z => he (hx b z), fun b ob q he => u.there b ob q fun z => he (hx b z), u.tups, u.frzs, u.tbls⟩
end

/-! ### the heap without what is tracked -/
def trk (h : Heap) (H : Hp) : List Addr := (List.range h.objs.size).filter fun a => (H a).isSome
def hidT (h : Heap) (H : Hp) : Heap := PySem.W.hideAll h (trk h H)
theorem hidT_size (h : Heap) (H : Hp) : (hidT h H).objs.size = h.objs.size := PySem.W.hideAll_size _ _
theorem hidT_get {h : Heap} {H : Hp} {b : Addr} {o : Obj} (e : h.get? b = some o) (n : H b = none) : (hidT h H).get? b = some o :=
  PySem.W.hideAll_get _ e fun hm => by
    have q : (H b).isSome = true := (List.mem_filter.mp hm).2
    rw [n] at q; simp at q
theorem of_hidT {h : Heap} {H : Hp} {b : Addr} {o : Obj} (e : (hidT h H).get? b = some o) : h.get? b = some o ∧ H b = none := by
  have e' : h.get? b = some o := PySem.W.of_hideAll (trk h H) e
  refine ⟨e', ?_⟩
  cases q : H b with
  | none => rfl
  | some x =>
    have hm : b ∈ trk h H := List.mem_filter.mpr ⟨List.mem_range.mpr (Heap.lt_size e'), by simp [q]⟩
    have z : (hidT h H).get? b = none := PySem.W.hideAll_none (trk h H) hm
    rw [z] at e; cases e

/-! ### OpenK's ledger, filled with every new object but one -/
def allNews (g h : Heap) (L : Addr) : List (Addr × Obj) := (List.range h.objs.size).filterMap fun a => if a = L ∨ (g.get? a).isSome = true then none else (h.get? a).map fun o => (a, o)
def rest (g h : Heap) (L d : Addr) : List (Addr × Obj) := (allNews g h L).filter fun p => decide (p.1 ≠ d)
end L2

namespace L2
open PySem PySem.Spec PyProof.Rows

/-- the module's facts, over the base: the heap at the law's entry without what is tracked there -/
structure Mod (K : PySem.W.Frag) (mg : Str → Option Value) (base : Heap) : Prop where
  kin : K.In base
  glob : base.Ns mainGlobals mg
  blt : ∃ mb, base.Ns builtinsNs mb ∧ ∀ x : Str, x ≠ "__name__" → mb x = bootBuiltins x
  nolimit : base.NoLimit

/-- the context: a def's body (or a comprehension's block) running. base: fixed through the whole law; s₀, H₀: the entry; outer: the frames whose slots others may change (a def's callers); stack: all frames that run;
   ex: iterators that were made ahead of the entry and are walked here (a comprehension's); fn: the names whose cells were made at the entry (a def: all; a comprehension's block: its own); calm: not within an except suite; pn: pins that every state bears; xe: what is wanted of an exception that leaves the code -/
structure Cx where
  prog : Program
  w : World
  K : PySem.W.Frag
  mg : Str → Option Value
  base : Heap
  A : Around
  N : List Str
  s₀ : Shared
  H₀ : Hp
  env : Env
  outer : List Env
  stack : List Env
  ex : List Addr
  fn : Str → Bool
  calm : Bool
  pn : List (Addr × Obj)
  xe : Value → Shared → Prop
/-- the callers' frames -/
def frs (l : List Env) : List Addr := l.filterMap (·.frame)
abbrev Cx.fs (X : Cx) : List Addr := frs X.outer

def Vis (sc : Scope) (x : Str) : Prop := sc.names.lookup x = some .local ∨ sc.names.lookup x = some .cell ∨ sc.names.lookup x = some .free
def Loc (sc : Scope) (x : Str) : Prop := sc.names.lookup x = some .local ∨ sc.names.lookup x = some .cell
def Look (env : Env) (h : Heap) (m : Str → Option Value) (x : Str) (u : Value) : Prop :=
  (env.kindOf x = some .local ∧ m x = some u) ∨ ((env.kindOf x = some .cell ∨ env.kindOf x = some .free) ∧ ∃ c, env.cells.lookup x = some c ∧ h.IsCell c (some u))

structure Cx.Ok (X : Cx) : Prop where
  mod : Mod X.K X.mg X.base
  kind : X.env.scope.kind = .function
  glob : X.env.globals = mainGlobals
  blt : X.env.builtins = builtinsNs
  above : X.s₀.heap.objs.size ≤ X.env.locals
  inj : ∀ x y c, X.env.cells.lookup x = some c → X.env.cells.lookup y = some c → x = y
  has : ∀ x, (X.env.kindOf x = some .cell ∨ X.env.kindOf x = some .free) → ∃ c, X.env.cells.lookup x = some c
  cab : ∀ x c, X.fn x = true → X.env.cells.lookup x = some c → X.s₀.heap.objs.size ≤ c
  hd : X.calm = true → X.A.handled = none
  frames : X.A.frames = some X.stack
  stk : X.stack = X.outer ∨ (X.stack = X.env :: X.outer ∧ X.env.frame = some X.env.locals)
  exf : ∀ b ∈ X.ex, b ≠ X.env.locals ∧ ∀ x c, X.env.cells.lookup x = some c → c ≠ b
  bs : ∀ b o, X.base.get? b = some o → X.s₀.heap.get? b = some o ∧ X.H₀ b = none
  bsz : X.base.objs.size ≤ X.s₀.heap.objs.size
  noex : ∀ b o, X.base.get? b = some o → b ∉ X.ex
  exfs : ∀ b ∈ X.ex, b ∉ X.fs
  funs : X.s₀.heap.FunFrames X.base X.outer
  frf : ∀ b ∈ X.fs, X.H₀ b = none

structure Inv (X : Cx) (pins : List (Addr × Obj)) (σ : List (Option V)) (H : Hp) (s : Shared) : Prop where
  ok : X.Ok
  os : s.os = X.s₀.os
  bare : AllBare s.gens
  base : Un X.fs X.ex X.H₀ H X.s₀.heap s.heap
  loc : ∃ m, s.heap.Ns X.env.locals m ∧ ∀ (i : Nat) (x : Str) (v : V), X.N[i]? = some x → σ[i]? = some (some v) → Vis X.env.scope x → ∃ u, RelV v u ∧ Look X.env s.heap m x u
  cell : ∀ x c, X.env.cells.lookup x = some c → ∃ v, s.heap.IsCell c v
  free : H X.env.locals = none
  freeC : ∀ x c, X.env.cells.lookup x = some c → H c = none
  pin : ∀ p ∈ X.pn ++ pins, s.heap.get? p.1 = some p.2 ∧ H p.1 = none ∧ p.1 ≠ X.env.locals ∧ p.1 ∉ X.fs ∧ ∀ v, p.2.data ≠ .cell v
  hok : HOk X.prog X.w H s.heap
  len : σ.length = X.N.length

section
variable {X : Cx} {pins : List (Addr × Obj)} {σ : List (Option V)} {H H' : Hp} {s : Shared} {h' : Heap}

theorem Cx.Ok.nofr (ok : X.Ok) {b : Addr} {o : Obj} (e : X.base.get? b = some o) : b ∉ X.fs := fun hb => by
  have := (ok.funs.mem hb).1
  rw [e] at this; cases this
theorem Inv.bs (I : Inv X pins σ H s) : ∀ b o, X.base.get? b = some o → s.heap.get? b = some o ∧ H b = none := fun b o e =>
  ⟨I.base.keep b o (I.ok.bs b o e).1 (I.ok.bs b o e).2 (I.ok.nofr e) (I.ok.noex b o e), I.base.free b o (I.ok.bs b o e).1 (I.ok.bs b o e).2 (I.ok.noex b o e)⟩
theorem Inv.bk (I : Inv X pins σ H s) : ∀ b o, X.base.get? b = some o → s.heap.get? b = some o := fun b o e => (I.bs b o e).1
theorem Inv.mod (I : Inv X pins σ H s) : Mod X.K X.mg X.base := I.ok.mod
theorem Inv.kIn (I : Inv X pins σ H s) : X.K.In s.heap := I.ok.mod.kin.keeps I.bk
theorem Inv.nolimit (I : Inv X pins σ H s) : s.heap.NoLimit := I.ok.mod.nolimit.keeps I.bk
/-- the frame over the base: for OpenK's rules (K.In X.base is I.mod.kin) -/
theorem Inv.fr (I : Inv X pins σ H s) : ∃ m, Fr X.base X.env.locals s.heap m :=
  let ⟨m, hn, _⟩ := I.loc
  ⟨m, hn, I.bk, Nat.le_trans I.ok.bsz I.ok.above⟩
theorem Inv.lt (I : Inv X pins σ H s) : X.env.locals < s.heap.objs.size := let ⟨_, hn, _⟩ := I.loc; hn.lt
theorem Inv.sz (I : Inv X pins σ H s) : X.s₀.heap.objs.size ≤ s.heap.objs.size := Nat.le_trans I.ok.above (Nat.le_of_lt I.lt)
theorem Inv.nofs (I : Inv X pins σ H s) {a : Addr} (h : s.heap.objs.size ≤ a) : a ∉ X.fs := fun hb => by
  obtain ⟨_, o, ho, _⟩ := I.ok.funs.mem hb
  exact absurd (Nat.lt_of_lt_of_le (Heap.lt_size ho) (Nat.le_trans I.sz h)) (Nat.lt_irrefl _)
theorem Inv.cne (I : Inv X pins σ H s) : ∀ x c, X.env.cells.lookup x = some c → c ≠ X.env.locals := fun x c e z => by
  obtain ⟨v, o, ho, hd⟩ := I.cell x c e
  obtain ⟨m, ⟨o', es, ep, ho', hd', _⟩, _⟩ := I.loc
  rw [z, ho'] at ho; cases ho; rw [hd'] at hd; cases hd
theorem Inv.funs (I : Inv X pins σ H s) : s.heap.FunFrames X.base X.outer := by
  have all : ∀ (l : List Env), (∀ b ∈ frs l, b ∈ X.fs) → X.s₀.heap.FunFrames X.base l → s.heap.FunFrames X.base l := by
    intro l
    induction l with
    | nil => intro _ _; trivial
    | cons env r ih =>
      intro hs hl
      obtain ⟨hk, ⟨L, o, hf, hn, ho, hd⟩, hr⟩ := hl
      have hL : L ∈ X.fs := hs L (by unfold frs; rw [List.filterMap_cons, hf]; exact List.mem_cons_self)
      obtain ⟨sl, e⟩ := I.base.slot L o ho (I.ok.frf L hL) hL fun z => I.ok.exfs L z hL
      exact ⟨hk, ⟨L, _, hf, hn, e, hd⟩, ih (fun b hb => hs b (by unfold frs; rw [List.filterMap_cons, hf]; exact List.mem_cons_of_mem _ hb)) hr⟩
  exact all X.outer (fun _ hb => hb) I.ok.funs

/-- the frames that run, for a call -/
theorem Inv.stack (I : Inv X pins σ H s) : s.heap.FunFrames X.base X.stack := by
  rcases I.ok.stk with e | ⟨e, hf⟩
  · rw [e]; exact I.funs
  · rw [e]
    obtain ⟨m, hn, _⟩ := I.loc
    refine .cons (by rw [I.ok.kind]; decide) hf hn ?_ I.funs
    exact Heap.get?_none_of_le (Nat.le_trans I.ok.bsz I.ok.above)
theorem Inv.stkSub (I : Inv X pins σ H s) : ∀ b ∈ frs X.stack, b ∈ X.env.locals :: X.fs := fun b hb => by
  rcases I.ok.stk with e | ⟨e, hf⟩
  · rw [e] at hb; exact List.mem_cons_of_mem _ hb
  · rw [e] at hb
    unfold frs at hb
    rw [List.filterMap_cons, hf] at hb
    exact hb
theorem Inv.stkFree (I : Inv X pins σ H s) : ∀ b ∈ frs X.stack, H b = none := fun b hb => by
  rcases List.mem_cons.mp (I.stkSub b hb) with e | hb
  · rw [e]; exact I.free
  · obtain ⟨_, o, ho, _⟩ := I.ok.funs.mem hb
    exact I.base.free b o ho (I.ok.frf b hb) fun z => I.ok.exfs b z hb

/-- THE STEP: the untracked objects but the frame and the records at ch are kept (the callers' frames up to slots), the frame's map is kept, the new abstract heap is held -/
theorem Inv.step {g' : Array GenState} {t' : Nat} {d' : Drawn} {ch : List Addr} (I : Inv X pins σ H s)
    (hch : ∀ b ∈ ch, (b ∈ X.ex ∨ X.s₀.heap.objs.size ≤ b) ∧ b ≠ X.env.locals ∧ (∀ x c, X.env.cells.lookup x = some c → c ≠ b) ∧ ∀ p ∈ X.pn ++ pins, p.1 ≠ b)
    (keep : ∀ b o, b ≠ X.env.locals → b ∉ X.fs → b ∉ ch → s.heap.get? b = some o → H b = none → h'.get? b = some o)
    (slot : ∀ b o, b ≠ X.env.locals → b ∈ X.fs → b ∉ ch → s.heap.get? b = some o → H b = none → ∃ sl, h'.get? b = some { o with slots := sl }) (free : ∀ b o, b ∉ ch → s.heap.get? b = some o → H b = none → H' b = none)
    (there : ∀ b o, b ∉ ch → s.heap.get? b = some o → ∃ o', h'.get? b = some o')
    (tups : ∀ b xs, H b = some (.tup xs) → H' b = some (.tup xs)) (frzs : ∀ b o u, H b = some (.frz o u) → H' b = some (.frz o u)) (tbls : ∀ b ps, H b = some (.tbl ps) → ∃ more, H' b = some (.tbl (ps ++ more)))
    (ns : ∀ m, s.heap.Ns X.env.locals m → h'.Ns X.env.locals m) (hok : HOk X.prog X.w H' h') (hg : AllBare g') :
    Inv X pins σ H' { s with heap := h', gens := g', drawn := d', toks := t' } := by
  have neL : ∀ b o, X.s₀.heap.get? b = some o → b ≠ X.env.locals := fun b o e => Nat.ne_of_lt (Nat.lt_of_lt_of_le (Heap.lt_size e) I.ok.above)
  have neC : ∀ b o, X.s₀.heap.get? b = some o → b ∉ X.ex → b ∉ ch := fun b o e hx hb => by
    rcases (hch b hb).1 with z | z
    · exact hx z
    · exact absurd (Nat.lt_of_lt_of_le (Heap.lt_size e) z) (Nat.lt_irrefl _)
  have cellK : ∀ x c, X.env.cells.lookup x = some c → ∀ v, s.heap.IsCell c v → h'.IsCell c v := fun x c e v ⟨o, ho, hd⟩ => by
    have nch : c ∉ ch := fun z => (hch c z).2.2.1 x c e rfl
    by_cases hc : c ∈ X.fs
    · obtain ⟨sl, q⟩ := slot c o (I.cne x c e) hc nch ho (I.freeC x c e)
      exact ⟨_, q, hd⟩
    · exact ⟨o, keep c o (I.cne x c e) hc nch ho (I.freeC x c e), hd⟩
  refine ⟨I.ok, I.os, hg, ⟨fun b o e n hb hx => ?_, fun b o e n hb hx => ?_, fun b o e n hx => ?_, fun b o e hx => ?_, fun b xs e => tups b xs (I.base.tups b xs e), fun b o xs e => frzs b o xs (I.base.frzs b o xs e), fun b ps e => ?_⟩, ?_, fun x c e => ?_, ?_, fun x c e => ?_, fun p hp => ?_, hok, I.len⟩
  · exact keep b o (neL b o e) hb (neC b o e hx) (I.base.keep b o e n hb hx) (I.base.free b o e n hx)
  · obtain ⟨sl, e1⟩ := I.base.slot b o e n hb hx
    obtain ⟨sl', e2⟩ := slot b _ (neL b o e) hb (neC b o e hx) e1 (I.base.free b o e n hx)
    exact ⟨sl', e2⟩
  · obtain ⟨o', e1⟩ := I.base.there b o e hx
    exact free b o' (neC b o e hx) e1 (I.base.free b o e n hx)
  · obtain ⟨o', e1⟩ := I.base.there b o e hx
    exact there b o' (neC b o e hx) e1
  · obtain ⟨m1, e1⟩ := I.base.tbls b ps e
    obtain ⟨m2, e2⟩ := tbls b _ e1
    exact ⟨m1 ++ m2, by rw [e2, Array.append_assoc]⟩
  · obtain ⟨m, hn, hl⟩ := I.loc
    refine ⟨m, ns m hn, fun i x v e1 e2 e3 => ?_⟩
    obtain ⟨u, r, l⟩ := hl i x v e1 e2 e3
    refine ⟨u, r, ?_⟩
    rcases l with l | ⟨k, c, e, z⟩
    · exact .inl l
    · exact .inr ⟨k, c, e, cellK x c e _ z⟩
  · obtain ⟨v, z⟩ := I.cell x c e
    exact ⟨v, cellK x c e v z⟩
  · obtain ⟨m, ⟨o, _, _, ho, _⟩, _⟩ := I.loc
    exact free _ o (fun z => (hch _ z).2.1 rfl) ho I.free
  · obtain ⟨v, o, ho, hd⟩ := I.cell x c e
    exact free c o (fun z => (hch c z).2.2.1 x c e rfl) ho (I.freeC x c e)
  · obtain ⟨e, n, ne, nf, d⟩ := I.pin p hp
    have nch : p.1 ∉ ch := fun z => (hch p.1 z).2.2.2 p hp rfl
    exact ⟨keep p.1 p.2 ne nf nch e n, free p.1 p.2 nch e n, ne, nf, d⟩
/-- .. where the frame's own object is kept too -/
theorem Inv.un {t' : Nat} (I : Inv X pins σ H s) (u : Un X.fs [] H H' s.heap h') (hok : HOk X.prog X.w H' h') : Inv X pins σ H' { s with heap := h', toks := t' } := by
  obtain ⟨m, ⟨o, es, ep, ho, r⟩, _⟩ := id I.loc
  obtain ⟨sl, hL⟩ := u.any ho I.free (by simp)
  exact I.step (g' := s.gens) (d' := s.drawn) (ch := []) (fun _ z => nomatch z) (fun b o _ hb _ e n => u.keep b o e n hb (by simp)) (fun b o _ hb _ e n => u.slot b o e n hb (by simp)) (fun b o _ e n => u.free b o e n (by simp)) (fun b o _ e => u.there b o e (by simp)) u.tups u.frzs u.tbls (fun m' hm => by
    obtain ⟨o', es', ep', ho', r'⟩ := hm
    rw [ho] at ho'; cases ho'
    exact ⟨_, es', ep', hL, r'⟩) hok I.bare
/-- behind a call (or a comprehension's block): the slots of this frame may have changed too, the records at ch may have turned -/
theorem Inv.call {g' : Array GenState} {t' : Nat} {d' : Drawn} {ch : List Addr} (I : Inv X pins σ H s) (u : Un (frs X.stack) ch H H' s.heap h') (hok : HOk X.prog X.w H' h') (hg : AllBare g')
    (hch : ∀ b ∈ ch, (b ∈ X.ex ∨ X.s₀.heap.objs.size ≤ b) ∧ b ≠ X.env.locals ∧ (∀ x c, X.env.cells.lookup x = some c → c ≠ b) ∧ ∀ p ∈ X.pn ++ pins, p.1 ≠ b) :
    Inv X pins σ H' { s with heap := h', gens := g', drawn := d', toks := t' } := by
  obtain ⟨m, ⟨o, es, ep, ho, r⟩, _⟩ := id I.loc
  obtain ⟨sl, hL⟩ := u.any ho I.free fun z => (hch _ z).2.1 rfl
  exact I.step (ch := ch) hch (fun b o hL hb hc e n => u.keep b o e n (fun z => (List.mem_cons.mp (I.stkSub b z)).elim hL hb) hc) (fun b o _ _ hc e n => u.any e n hc) (fun b o hc e n => u.free b o e n hc) (fun b o hc e => u.there b o e hc) u.tups u.frzs u.tbls (fun m' hm => by
    obtain ⟨o', es', ep', ho', r'⟩ := hm
    rw [ho] at ho'; cases ho'
    exact ⟨_, es', ep', hL, r'⟩) hok hg
/-- an untracked record of ours (an iterator) has turned -/
theorem Inv.turned {t' : Nat} {it : Addr} (I : Inv X pins σ H s) (k : ∀ b o, b ≠ it → s.heap.get? b = some o → h'.get? b = some o) (hn : H it = none) (hL : it ≠ X.env.locals)
    (h1 : it ∈ X.ex ∨ X.s₀.heap.objs.size ≤ it) (h2 : ∀ x c, X.env.cells.lookup x = some c → c ≠ it) (h3 : ∀ p ∈ X.pn ++ pins, p.1 ≠ it) : Inv X pins σ H { s with heap := h', toks := t' } := by
  have nit : ∀ b u, H b = some u → b ≠ it := fun b u e z => by rw [z, hn] at e; cases e
  refine I.step (g' := s.gens) (d' := s.drawn) (ch := [it]) (fun b hb => ?_) (fun b o _ _ hc e _ => k b o (fun z => hc (by simp [z])) e) (fun b o _ _ hc e _ => ⟨o.slots, k b o (fun z => hc (by simp [z])) e⟩) (fun _ _ _ _ n => n)
    (fun b o hc e => ⟨o, k b o (fun z => hc (by simp [z])) e⟩) (fun _ _ e => e) (fun _ _ _ e => e) (fun b ps e => ⟨#[], by rw [e]; simp⟩) (fun m hm => ?_) (fun b u e => ?_) I.bare
  · have e : b = it := by simpa using hb
    subst e
    exact ⟨h1, hL, h2, h3⟩
  · obtain ⟨o, es, ep, ho, r⟩ := hm
    exact ⟨o, es, ep, k _ o (Ne.symm hL) ho, r⟩
  · refine (I.hok b u e).stay (fun c v hc q => k c v ?_ q) (fun _ q => q) fun _ _ q => q
    rcases hc with z | z
    · rw [z]; exact nit b u e
    · exact nit c _ z
theorem Inv.tok (I : Inv X pins σ H s) (t : Nat) : Inv X pins σ H { s with toks := t } := I.un (h' := s.heap) (t' := t) Un.refl I.hok
/-- all objects kept -/
theorem Inv.kept {t' : Nat} (I : Inv X pins σ H s) (k : ∀ b u, s.heap.get? b = some u → h'.get? b = some u) : Inv X pins σ H { s with heap := h', toks := t' } := I.un (Un.kept k) (I.hok.kept k)
/-- a new object laid and tracked -/
theorem Inv.laid {a : Addr} {o : HO} {t' : Nat} (I : Inv X pins σ H s) (k : ∀ b u, s.heap.get? b = some u → h'.get? b = some u) (hp : s.heap.objs.size ≤ a) (new : ObjOk X.prog X.w (upd H a o) h' a o) :
    Inv X pins σ (upd H a o) { s with heap := h', toks := t' } := I.un (Un.laid k hp (I.hok.fresh hp)) (I.hok.laid k hp new)
/-- an object written -/
theorem Inv.write {x e : Addr} {o : HO} {t' : Nat} (I : Inv X pins σ H s) (mu : Mut (H x)) (he : e = x ∨ H e = some (.own x)) (k : ∀ b u, b ≠ e → s.heap.get? b = some u → h'.get? b = some u) (heo : ∃ u, h'.get? e = some u)
    (new : ObjOk X.prog X.w (upd H x o) h' x o) : Inv X pins σ (upd H x o) { s with heap := h', toks := t' } := I.un (Un.write mu he k heo) (I.hok.write mu he k heo new)
theorem Inv.pins_of {pins' : List (Addr × Obj)} (I : Inv X pins σ H s) (h : ∀ p ∈ pins', s.heap.get? p.1 = some p.2 ∧ H p.1 = none ∧ p.1 ≠ X.env.locals ∧ p.1 ∉ X.fs ∧ ∀ v, p.2.data ≠ .cell v) : Inv X pins' σ H s :=
  ⟨I.ok, I.os, I.bare, I.base, I.loc, I.cell, I.free, I.freeC, fun p hp => (List.mem_append.mp hp).elim (fun z => I.pin p (List.mem_append_left _ z)) (h p), I.hok, I.len⟩

theorem nodup_ix {N : List Str} (hN : N.Nodup) {i j : Nat} {x : Str} (a : N[i]? = some x) (b : N[j]? = some x) : i = j := by
  obtain ⟨h1, e1⟩ := List.getElem?_eq_some_iff.mp a
  obtain ⟨h2, e2⟩ := List.getElem?_eq_some_iff.mp b
  exact (List.getElem_inj hN).mp (e1.trans e2.symm)

/-- a name is stored; what changed -/
theorem store_ok2 {M : Model} {A : Around} {E : Value → Shared → Prop} {i : Nat} {x : Str} {v : V} {u : Value} {Q : Unit → Shared → Prop} (I : Inv X pins σ H s) (hN : X.N.Nodup) (hi : X.N[i]? = some x) (hx : Loc X.env.scope x) (r : RelV v u)
    (h : ∀ s', Inv X pins (σ.set i (some v)) H s' → (∃ a, Heap.SameBut a s.heap s'.heap ∧ (a = X.env.locals ∨ X.env.cells.lookup x = some a)) → Q () s') (hf : X.fn x = true ∨ X.env.scope.names.lookup x = some .local := by first | exact .inl rfl | exact .inr rfl | assumption) : wpAny M A (storeName X.env x u) Q E s := by
  obtain ⟨m, hn, hl⟩ := id I.loc
  have hcls : (X.env.scope.kind == .class || (X.env.scope.kind == .module && X.env.locals != X.env.globals)) = false := by rw [I.ok.kind]; rfl
  have hiσ : i < σ.length := by rw [I.len]; exact (List.getElem?_eq_some_iff.mp hi).1
  have cne := I.cne
  have tracked : ∀ {a : Addr} {h' : Heap}, (∃ o, s.heap.get? a = some o ∧ H a = none) → Heap.SameBut a s.heap h' → HOk X.prog X.w H h' := fun {a h'} ha hs b ob e => by
    obtain ⟨_, _, hfree⟩ := ha
    refine (I.hok b ob e).stay (fun c w' hc q => (hs.2 c ?_).trans q) (fun _ q => q) fun _ _ q => q
    rintro rfl
    rcases hc with rfl | hc
    · rw [hfree] at e; cases e
    · rw [hfree] at hc; cases hc
  rcases hx with hk | hk
  · refine wpAny_storeName_local hk hn (fun h' hn' hs => ?_) hcls
    obtain ⟨oL, _, _, hoL, _⟩ := id hn
    refine h _ ⟨I.ok, I.os, I.bare, ⟨fun b o e n hb hx => ?_, fun b o e n hb hx => ?_, I.base.free, fun b o e hx => ?_, I.base.tups, I.base.frzs, I.base.tbls⟩, ⟨_, hn', fun j y v' e1 e2 e3 => ?_⟩, fun y c e => ?_, I.free, I.freeC, fun p hp => ?_, tracked ⟨oL, hoL, I.free⟩ hs, by simpa using I.len⟩ ⟨_, hs, .inl rfl⟩
    · exact (hs.2 b (Nat.ne_of_lt (Nat.lt_of_lt_of_le (Heap.lt_size e) I.ok.above))).trans (I.base.keep b o e n hb hx)
    · obtain ⟨sl, e1⟩ := I.base.slot b o e n hb hx
      exact ⟨sl, (hs.2 b (Nat.ne_of_lt (Nat.lt_of_lt_of_le (Heap.lt_size e) I.ok.above))).trans e1⟩
    · obtain ⟨o', e1⟩ := I.base.there b o e hx
      exact ⟨o', (hs.2 b (Nat.ne_of_lt (Nat.lt_of_lt_of_le (Heap.lt_size e) I.ok.above))).trans e1⟩
    · by_cases hj : j = i
      · subst hj
        rw [hi] at e1; cases e1
        rw [List.getElem?_set_self hiσ] at e2
        cases e2
        exact ⟨u, r, .inl ⟨hk, by simp⟩⟩
      · rw [List.getElem?_set_ne (Ne.symm hj)] at e2
        obtain ⟨u', r', q⟩ := hl j y v' e1 e2 e3
        refine ⟨u', r', ?_⟩
        rcases q with ⟨k, e⟩ | ⟨k, c, e, z⟩
        · refine .inl ⟨k, ?_⟩
          have : y ≠ x := fun e => hj (nodup_ix hN e1 (e ▸ hi))
          simp [this, e]
        · exact .inr ⟨k, c, e, z.sameBut hs (cne y c e)⟩
    · obtain ⟨w', z⟩ := I.cell y c e
      exact ⟨w', z.sameBut hs (cne y c e)⟩
    · obtain ⟨e, n, ne, nf, d⟩ := I.pin p hp
      exact ⟨(hs.2 p.1 ne).trans e, n, ne, nf, d⟩
  · have hfn : X.fn x = true := by
      rcases hf with z | z
      · exact z
      · rw [z] at hk; cases hk
    obtain ⟨c, hc⟩ := I.ok.has x (.inl hk)
    obtain ⟨w', z⟩ := I.cell x c hc
    refine wpAny_storeName_cell I.ok.kind hk hc z (fun h' hc' hs => ?_)
    obtain ⟨oc, hoc, hocd⟩ := id z
    refine h { s with heap := h' } ⟨I.ok, I.os, I.bare, ⟨fun b o e n hb hx => ?_, fun b o e n hb hx => ?_, I.base.free, fun b o e hx => ?_, I.base.tups, I.base.frzs, I.base.tbls⟩, ⟨m, hn.sameBut hs (Ne.symm (cne x c hc)), fun j y v' e1 e2 e3 => ?_⟩, fun y c' e => ?_, I.free, I.freeC, fun p hp => ?_, tracked ⟨oc, hoc, I.freeC x c hc⟩ hs, by simpa using I.len⟩ ⟨c, hs, .inr hc⟩
    · exact (hs.2 b (Nat.ne_of_lt (Nat.lt_of_lt_of_le (Heap.lt_size e) (I.ok.cab x c hfn hc)))).trans (I.base.keep b o e n hb hx)
    · obtain ⟨sl, e1⟩ := I.base.slot b o e n hb hx
      exact ⟨sl, (hs.2 b (Nat.ne_of_lt (Nat.lt_of_lt_of_le (Heap.lt_size e) (I.ok.cab x c hfn hc)))).trans e1⟩
    · obtain ⟨o', e1⟩ := I.base.there b o e hx
      exact ⟨o', (hs.2 b (Nat.ne_of_lt (Nat.lt_of_lt_of_le (Heap.lt_size e) (I.ok.cab x c hfn hc)))).trans e1⟩
    · by_cases hj : j = i
      · subst hj
        rw [hi] at e1; cases e1
        rw [List.getElem?_set_self hiσ] at e2
        cases e2
        exact ⟨u, r, .inr ⟨.inl hk, c, hc, hc'⟩⟩
      · rw [List.getElem?_set_ne (Ne.symm hj)] at e2
        obtain ⟨u', r', q⟩ := hl j y v' e1 e2 e3
        refine ⟨u', r', ?_⟩
        rcases q with q | ⟨k, c', e, z'⟩
        · exact .inl q
        · refine .inr ⟨k, c', e, z'.sameBut hs ?_⟩
          rintro rfl
          exact hj (nodup_ix hN e1 (I.ok.inj _ _ _ e hc ▸ hi))
    · by_cases hcc : c' = c
      · subst hcc; exact ⟨_, hc'⟩
      · obtain ⟨w2, z2⟩ := I.cell y c' e
        exact ⟨w2, z2.sameBut hs hcc⟩
    · obtain ⟨e, n, ne, nf, d⟩ := I.pin p hp
      refine ⟨(hs.2 p.1 ?_).trans e, n, ne, nf, d⟩
      intro q
      rw [q, hoc] at e
      have q' : oc = p.2 := Option.some.inj e
      exact d w' (by rw [← q']; exact hocd)
theorem store_ok {M : Model} {A : Around} {E : Value → Shared → Prop} {i : Nat} {x : Str} {v : V} {u : Value} {Q : Unit → Shared → Prop} (I : Inv X pins σ H s) (hN : X.N.Nodup) (hi : X.N[i]? = some x) (hx : Loc X.env.scope x) (r : RelV v u)
    (h : ∀ s', Inv X pins (σ.set i (some v)) H s' → Q () s') (hf : X.fn x = true ∨ X.env.scope.names.lookup x = some .local := by first | exact .inl rfl | exact .inr rfl | assumption) : wpAny M A (storeName X.env x u) Q E s :=
  store_ok2 I hN hi hx r (fun s' I' _ => h s' I') hf
/-- behind a call or a block, the state as it is -/
theorem Inv.call' {s' : Shared} {ch : List Addr} (I : Inv X pins σ H s) (ho : s'.os = s.os) (u : Un (frs X.stack) ch H H' s.heap s'.heap) (hok : HOk X.prog X.w H' s'.heap) (hg : AllBare s'.gens)
    (hch : ∀ b ∈ ch, (b ∈ X.ex ∨ X.s₀.heap.objs.size ≤ b) ∧ b ≠ X.env.locals ∧ (∀ x c, X.env.cells.lookup x = some c → c ≠ b) ∧ ∀ p ∈ X.pn ++ pins, p.1 ≠ b) : Inv X pins σ H' s' := by
  obtain ⟨h', g', d', t', o'⟩ := s'
  have e : o' = s.os := ho
  subst e
  exact I.call (g' := g') (t' := t') (d' := d') u hok hg hch
end

/-! ### the judgements -/
/-- an exception: its class, its own dict's address (where it has one), the abstract heap behind it -/
abbrev XK := Value → Option Addr → Hp → Prop
abbrev St := List (Option V)
abbrev VK := V → Hp → Prop
/-- an expression's reading; a test's; an argument list's -/
abbrev TE := St → Hp → VK → Prop
abbrev TT := St → Hp → (Bool → Hp → Prop) → Prop
abbrev TA := St → Hp → (List V → Hp → Prop) → Prop
/-- what is wanted behind a statement -/
structure Ends where
  nx : St → Hp → Prop
  rt : VK
  bk : St → Hp → Prop := fun _ _ => False
  ct : St → Hp → Prop := fun _ _ => False
abbrev TS := Ends → St → Hp → Prop

def EP (X : Cx) (pins : List (Addr × Obj)) (σ : St) (Q : VK) (u : Value) (s' : Shared) : Prop := ∃ v H', Inv X pins σ H' s' ∧ RelV v u ∧ Q v H'
def TP (X : Cx) (pins : List (Addr × Obj)) (σ : St) (Q : Bool → Hp → Prop) (b : Bool) (s' : Shared) : Prop := ∃ H', Inv X pins σ H' s' ∧ Q b H'
def AP (X : Cx) (pins : List (Addr × Obj)) (σ : St) (Q : List V → Hp → Prop) (us : List Value) (s' : Shared) : Prop := ∃ vs H', Inv X pins σ H' s' ∧ Vals vs us ∧ Q vs H'
def SP (X : Cx) (pins : List (Addr × Obj)) (D : Ends) (f : Flow) (s' : Shared) : Prop :=
  match f with
  | .next => ∃ σ' H', Inv X pins σ' H' s' ∧ D.nx σ' H'
  | .brk => ∃ σ' H', Inv X pins σ' H' s' ∧ D.bk σ' H'
  | .cont => ∃ σ' H', Inv X pins σ' H' s' ∧ D.ct σ' H'
  | .ret u => ∃ v σ' H', Inv X pins σ' H' s' ∧ RelV v u ∧ D.rt v H'

def PE (X : Cx) (e : Expr) (t : TE) : Prop :=
  ∀ (pins : List (Addr × Obj)) (s : Shared) (σ : St) (H : Hp) (Q : VK), Inv X pins σ H s → t σ H Q → wpAny (model X.prog X.w) X.A (eval e X.env) (EP X pins σ Q) X.xe s
def PT (X : Cx) (e : Expr) (t : TT) : Prop :=
  ∀ (pins : List (Addr × Obj)) (s : Shared) (σ : St) (H : Hp) (Q : Bool → Hp → Prop), Inv X pins σ H s → t σ H Q → wpAny (model X.prog X.w) X.A (isTrue e X.env (eval e X.env)) (TP X pins σ Q) X.xe s
/-- a test whatever its 'whole' is (and, or) -/
def PW (X : Cx) (e : Expr) (t : TT) : Prop :=
  ∀ (whole : Sem Value) (pins : List (Addr × Obj)) (s : Shared) (σ : St) (H : Hp) (Q : Bool → Hp → Prop), Inv X pins σ H s → t σ H Q → wpAny (model X.prog X.w) X.A (isTrue e X.env whole) (TP X pins σ Q) X.xe s
theorem PW.pt {X : Cx} {e : Expr} {t : TT} (h : PW X e t) : PT X e t := h _
/-- an argument list (no star), from the left -/
def PA (X : Cx) (es : List Expr) (t : TA) : Prop :=
  ∀ (pos : Pos) (pins : List (Addr × Obj)) (s : Shared) (σ : St) (H : Hp) (Q : List V → Hp → Prop), Inv X pins σ H s → t σ H Q → wpAny (model X.prog X.w) X.A (spliced (backTo pos (starEach es X.env))) (AP X pins σ Q) X.xe s
def PS (X : Cx) (st : Stmt) (t : TS) : Prop :=
  ∀ (pins : List (Addr × Obj)) (s : Shared) (σ : St) (H : Hp) (D : Ends), Inv X pins σ H s → t D σ H → wpAny (model X.prog X.w) X.A (exec st X.env) (SP X pins D) X.xe s
def PSs (X : Cx) (st : List Stmt) (t : TS) : Prop :=
  ∀ (pins : List (Addr × Obj)) (s : Shared) (σ : St) (H : Hp) (D : Ends), Inv X pins σ H s → t D σ H → wpAny (model X.prog X.w) X.A (execs st X.env) (SP X pins D) X.xe s
/-- weaken the end -/
theorem thn {α : Type} {t : Sem α} {Q Q' : α → Shared → Prop} {M : Model} {A : Around} {E : Value → Shared → Prop} {s : Shared} (h : wpAny M A t Q E s) (hQ : ∀ a s, Q a s → Q' a s) : wpAny M A t Q' E s := wpAny_mono h hQ fun _ _ x => x
end L2

namespace L2
open PySem PySem.Spec PyProof.Rows
section
variable {X : Cx}

/-! ### names and constants -/
def tVar (i : Nat) : TE := fun σ H Q => ∃ v, σ[i]? = some (some v) ∧ Q v H
def tC (v : V) : TE := fun _ H Q => Q v H
theorem pe_var {i : Nat} {x : Str} {pos : Pos} (hN : X.N[i]? = some x) (hv : Vis X.env.scope x) (hd : (x == ("__debug__" : Str)) = false := by decide) (hcd : (x == ("__classdict__" : Str)) = false := by decide) : PE X (.Name x pos) (tVar i) := by
  intro pins s σ H Q I h
  obtain ⟨v, e, h⟩ := h
  obtain ⟨m, hn, hl⟩ := I.loc
  obtain ⟨u, r, l⟩ := hl i x v hN e hv
  have fin : EP X pins σ Q u s := ⟨v, H, I, r, h⟩
  rcases l with ⟨hk, hm⟩ | ⟨hk, c, hc, hcell⟩
  · exact wpAny_Name (wpAny_loadName_local I.ok.kind hk hn hm fin) hd
  · rcases hk with hk | hk
    · exact wpAny_Name (wpAny_loadName_cell I.ok.kind hk hc hcell fin) hd
    · exact wpAny_Name (wpAny_loadName_free I.ok.kind hk hc hcell fin hcd) hd
theorem pe_int {i j pos} : PE X (.Constant (.int i) j pos) (tC (.int i)) := fun _ _ _ H _ I h => wpAny_Constant_int ⟨.int i, H, I.tok _, ⟨_, rfl⟩, h⟩
theorem pe_bl {b j pos} : PE X (.Constant (.bool b) j pos) (tC (.bl b)) := fun _ _ _ H _ I h => Constant_bool ⟨.bl b, H, I, rfl, h⟩
theorem pe_non {j pos} : PE X (.Constant .none j pos) (tC .non) := fun _ _ _ H _ I h => Constant_none ⟨.non, H, I, rfl, h⟩
/-- a global name of the def -/
def Gl (X : Cx) (x : Str) : Prop := X.env.kindOf x = some .globalImplicit
theorem ld_glob {E : Value → Shared → Prop} {pins : List (Addr × Obj)} {s : Shared} {σ : St} {H : Hp} {x : Str} {u : Value} {pos : Pos} {Q : Value → Shared → Prop} (I : Inv X pins σ H s) (hg : Gl X x) (hm : X.mg x = some u) (h : Q u s)
    (hd : (x == ("__debug__" : Str)) = false := by decide) : wpAny (model X.prog X.w) X.A (eval (.Name x pos) X.env) Q E s :=
  Calls.Name_function_global I.ok.kind hg (Calls.loadGlobal_global (by rw [I.ok.glob]; exact I.mod.glob.keeps I.bk) hm h) hd
theorem ld_blt {E : Value → Shared → Prop} {pins : List (Addr × Obj)} {s : Shared} {σ : St} {H : Hp} {x : Str} {u : Value} {pos : Pos} {Q : Value → Shared → Prop} (I : Inv X pins σ H s) (hg : Gl X x) (hm : X.mg x = none) (hv : bootBuiltins x = some u) (h : Q u s)
    (hn : x ≠ "__name__" := by decide) (hd : (x == ("__debug__" : Str)) = false := by decide) : wpAny (model X.prog X.w) X.A (eval (.Name x pos) X.env) Q E s := by
  obtain ⟨mb, h1, h2⟩ := I.mod.blt
  exact Calls.Name_function_global I.ok.kind hg (Calls.loadGlobal_builtin (by rw [I.ok.glob]; exact I.mod.glob.keeps I.bk) hm (by rw [I.ok.blt]; exact h1.keeps I.bk) ((h2 x hn).trans hv) h) hd
theorem pe_bltn {x : Str} {v : V} {u : Value} {pos : Pos} (hg : Gl X x) (hm : X.mg x = none) (hv : bootBuiltins x = some u) (r : RelV v u) (hn : x ≠ "__name__" := by decide) (hd : (x == ("__debug__" : Str)) = false := by decide) : PE X (.Name x pos) (tC v) :=
  fun _ _ _ H _ I h => ld_blt I hg hm hv ⟨v, H, I, r, h⟩ hn hd

/-! ### arithmetic -/
variable {a b : Expr} {ta tb : TE} {pos : Pos}
/-! ### comparisons -/
def PC (X : Cx) (op : CmpOp) (a b : Expr) (t : TE) : Prop :=
  ∀ (pins : List (Addr × Obj)) (s : Shared) (σ : St) (H : Hp) (Q : VK), Inv X pins σ H s → t σ H Q →
    wpAny (model X.prog X.w) X.A (eval a X.env) (fun v s₁ => wpAny (model X.prog X.w) X.A (eval b X.env) (fun u s₂ => wpAny (model X.prog X.w) X.A (compareOp op v u) (EP X pins σ Q) X.xe s₂) X.xe s₁) X.xe s
theorem nobehind (b : Expr) {op : CmpOp} (h : op ≠ .In) (h2 : op ≠ .NotIn) : behindInMarks op b = false := by
  have e1 : (op == CmpOp.In) = false := by cases op <;> first | rfl | exact absurd rfl h
  have e2 : (op == CmpOp.NotIn) = false := by cases op <;> first | rfl | exact absurd rfl h2
  cases b <;> simp [behindInMarks, e1, e2]
/-- a comparison as a value, as a test -/
def tB (t : TE) : TT := fun σ H Q => t σ H fun x H1 => ∃ c, x = .bl c ∧ Q c H1
theorem pt_cmp {op : CmpOp} {t : TE} (h : PC X op a b t) (h1 : behindInMarks op b = false := by first | exact nobehind _ (by decide) (by decide) | rfl) : PT X (.Compare a [op] [b] pos) (tB t) := by
  intro pins s σ H Q I hw
  refine wpAny_isTrue_Compare1 (thn (h pins s σ H _ I hw) fun v s1 h1 => thn h1 fun u s2 h2 => thn h2 fun c s3 ⟨x, H1, I1, r1, q1⟩ => ?_) h1
  obtain ⟨d, rfl, q⟩ := q1
  cases r1
  exact wpAny_truthy_bool ⟨H1, I1, q⟩
/-- an expression whose value is a bool, as a test -/
theorem pt_val {e : Expr} {t : TE} (h : PE X e t) (he : ∀ whole, isTrue e X.env whole = (do let v ← whole; standAt e.pos; holding [v] (truthy v)) := by intro _; rfl) : PT X e (tB t) := by
  intro pins s σ H Q I hw
  refine isTrue_plain (thn (h pins s σ H _ I hw) fun v s1 ⟨x, H1, I1, r1, q1⟩ => ?_) (he _)
  obtain ⟨d, rfl, q⟩ := q1
  cases r1
  exact wpAny_truthy_bool ⟨H1, I1, q⟩

/-! ### and, or, not -/
variable {tA tB' : TT} {rest : List Expr}
def tOr (t u : TT) : TT := fun σ H Q => t σ H fun c H1 => if c = true then Q true H1 else u σ H1 Q
def tNot (t : TT) : TT := fun σ H Q => t σ H fun c H1 => Q (!c) H1
theorem pw_or1 (ha : PT X a tA) : PW X (.BoolOp .Or [a] pos) tA := by
  intro wh pins s σ H Q I h
  refine isTrue_or (thn (ha pins s σ H Q I h) fun c s1 e => ?_)
  cases c with
  | false => exact isTrue_or_nil e
  | true => exact e
theorem pw_or (ha : PT X a tA) (hb : PW X (.BoolOp .Or (b :: rest) pos) tB') : PW X (.BoolOp .Or (a :: b :: rest) pos) (tOr tA tB') := by
  intro wh pins s σ H Q I h
  refine isTrue_or (thn (ha pins s σ H _ I h) fun c s1 ⟨H1, I1, q1⟩ => ?_)
  cases c with
  | true => exact ⟨H1, I1, q1⟩
  | false => exact hb wh pins s1 σ H1 Q I1 q1
theorem pt_not (ha : PT X a tA) : PT X (.UnaryOp .Not a pos) (tNot tA) := by
  intro pins s σ H Q I h
  exact isTrue_not (ha pins s σ H (fun c H1 => Q (!c) H1) I h)
/-- .. as values (bools) -/
def tAndV (ta tb : TE) : TE := fun σ H Q => ta σ H fun x H1 => ∃ c, x = .bl c ∧ if c = true then tb σ H1 Q else Q (.bl false) H1
def tNotV (ta : TE) : TE := fun σ H Q => ta σ H fun x H1 => ∃ c, x = .bl c ∧ Q (.bl (!c)) H1
theorem pe_one {op} {t : TE} (h : PE X a t) : PE X (.BoolOp op [a] pos) t := fun pins s σ H Q I hw => BoolOp_one (h pins s σ H Q I hw)
theorem pe_and (ha : PE X a ta) (hb : PE X (.BoolOp .And (b :: rest) pos) tb) : PE X (.BoolOp .And (a :: b :: rest) pos) (tAndV ta tb) := by
  intro pins s σ H Q I h
  refine BoolOp_and (thn (ha pins s σ H _ I h) fun v s1 ⟨x, H1, I1, r1, q1⟩ => ?_)
  obtain ⟨c, rfl, q1⟩ := q1
  cases r1
  refine wpAny_truthy_bool ?_
  cases c with
  | true => exact hb pins s1 σ H1 Q I1 q1
  | false => exact ⟨.bl false, H1, I1, rfl, q1⟩
theorem pe_not (ha : PE X a ta) : PE X (.UnaryOp .Not a pos) (tNotV ta) := by
  intro pins s σ H Q I h
  refine UnaryOp_ (thn (ha pins s σ H _ I h) fun v s1 ⟨x, H1, I1, r1, q1⟩ => ?_)
  obtain ⟨c, rfl, q1⟩ := q1
  cases r1
  exact not_of (wpAny_truthy_bool ⟨.bl (!c), H1, I1, rfl, q1⟩)
end
end L2

namespace L2
open PySem PySem.Spec PyProof.Rows

/-! ### a list, a tuple that is read: tracked, frozen, or an object of the module -/
def SqL (K : PySem.W.Frag) (H : Hp) (a : Addr) (xs : List V) : Prop :=
  Rd H a (.lst xs) ∨
    ∃ (o : Obj) (its : Array Value) (n : Nat), K.lookup a = some o ∧ o.cls = .type "list" ∧ o.dict = none ∧ o.data = .seq its n ∧ its.size ≤ sizeLine ∧ Vals xs its.toList
def SqT (K : PySem.W.Frag) (H : Hp) (a : Addr) (xs : List V) : Prop :=
  Rd H a (.tup xs) ∨
    ∃ (o : Obj) (its : Array Value) (n : Nat), K.lookup a = some o ∧ o.cls = .type "tuple" ∧ o.data = .seq its n ∧ its.size ≤ sizeLine ∧ Vals xs its.toList
def absV : Value → Option V
  | .none => some .non
  | .bool b => some (.bl b)
  | .int i _ => some (.int i)
  | .str x _ => some (.str x)
  | .bytes b _ => some (.byt b)
  | .float b _ => some (.flt b)
  | .ref a => some (.ref a)
  | .type n => some (.ty n)
  | _ => none
theorem RelV.abs {x : V} {u : Value} (r : RelV x u) : absV u = some x := by
  cases x with
  | non => cases r; rfl
  | bl _ => cases r; rfl
  | int _ => obtain ⟨t, rfl⟩ := r; rfl
  | str _ => obtain ⟨t, rfl⟩ := r; rfl
  | byt _ => obtain ⟨t, rfl⟩ := r; rfl
  | flt _ => obtain ⟨t, rfl⟩ := r; rfl
  | ref _ => cases r; rfl
  | ty _ => cases r; rfl
theorem RelV.inj {x y : V} {u : Value} (r : RelV x u) (q : RelV y u) : x = y := Option.some.inj (r.abs.symm.trans q.abs)
theorem Vals.inj : ∀ {xs ys : List V} {us : List Value}, Vals xs us → Vals ys us → xs = ys
  | _, _, _, .nil, .nil => rfl
  | _, _, _, .cons r t, .cons r' t' => by rw [r.inj r', Vals.inj t t']
section
variable {X : Cx} {pins : List (Addr × Obj)} {σ : St} {H : Hp} {s : Shared} {a : Addr} {xs ys : List V}
theorem SqL.of {K : PySem.W.Frag} (h : H a = some (.lst xs)) : SqL K H a xs := .inl (.inl h)
theorem SqT.of {K : PySem.W.Frag} (h : H a = some (.tup xs)) : SqT K H a xs := .inl (.inl h)
theorem Inv.list (I : Inv X pins σ H s) (h : SqL X.K H a xs) : ∃ its : List Value, Vals xs its ∧ PlainL s.heap a its.toArray ∧ xs.length ≤ sizeLine := by
  rcases h with h | ⟨o, its, n, hk, hc, hd, hs, hz, r⟩
  · obtain ⟨z, its, n, r, e⟩ := h.ok I.hok
    exact ⟨its, r, ⟨_, n, e, rfl, rfl, rfl⟩, z⟩
  · refine ⟨its.toList, r, ⟨o, n, I.kIn a o hk, hc, hd, by simpa using hs⟩, ?_⟩
    have e := r.length
    simp only [Array.length_toList] at e
    omega
theorem Inv.tuple (I : Inv X pins σ H s) (h : SqT X.K H a xs) : ∃ its : List Value, Vals xs its ∧ IsTup s.heap a its.toArray ∧ xs.length ≤ sizeLine := by
  rcases h with h | ⟨o, its, n, hk, hc, hs, hz, r⟩
  · obtain ⟨z, its, r, p⟩ := h.ok I.hok
    exact ⟨its, r, p, z⟩
  · refine ⟨its.toList, r, ⟨o, I.kIn a o hk, hc, n, by simpa using hs⟩, ?_⟩
    have e := r.length
    simp only [Array.length_toList] at e
    omega
theorem Inv.list_inj (I : Inv X pins σ H s) (h : SqL X.K H a xs) (h' : SqL X.K H a ys) : xs = ys := by
  obtain ⟨its, r, ⟨o, n, e, _, _, d⟩, _⟩ := I.list h
  obtain ⟨its', r', ⟨o', n', e', _, _, d'⟩, _⟩ := I.list h'
  rw [e] at e'; cases e'
  rw [d] at d'
  injection d' with d1 _
  have : its = its' := by simpa using congrArg Array.toList d1
  subst this
  exact r.inj r'
end

/-! ### another wish about exceptions -/
abbrev Cx.wish (X : Cx) (E : Value → Shared → Prop) : Cx := { X with xe := E }
/-- no exception leaves -/
abbrev Cx.nox (X : Cx) : Cx := X.wish fun _ _ => False
theorem Cx.Ok.wish {X : Cx} (ok : X.Ok) (E : Value → Shared → Prop) : (X.wish E).Ok :=
  ⟨ok.mod, ok.kind, ok.glob, ok.blt, ok.above, ok.inj, ok.has, ok.cab, ok.hd, ok.frames, ok.stk, ok.exf, ok.bs, ok.bsz, ok.noex, ok.exfs, ok.funs, ok.frf⟩
theorem Cx.Ok.unwish {X : Cx} {E : Value → Shared → Prop} (ok : (X.wish E).Ok) : X.Ok :=
  ⟨ok.mod, ok.kind, ok.glob, ok.blt, ok.above, ok.inj, ok.has, ok.cab, ok.hd, ok.frames, ok.stk, ok.exf, ok.bs, ok.bsz, ok.noex, ok.exfs, ok.funs, ok.frf⟩
section
variable {X : Cx} {pins : List (Addr × Obj)} {σ : St} {H : Hp} {s : Shared} {E : Value → Shared → Prop}
theorem Inv.wish (I : Inv X pins σ H s) (E : Value → Shared → Prop) : Inv (X.wish E) pins σ H s := ⟨I.ok.wish E, I.os, I.bare, I.base, I.loc, I.cell, I.free, I.freeC, I.pin, I.hok, I.len⟩
theorem Inv.unwish (I : Inv (X.wish E) pins σ H s) : Inv X pins σ H s := ⟨I.ok.unwish, I.os, I.bare, I.base, I.loc, I.cell, I.free, I.freeC, I.pin, I.hok, I.len⟩
theorem SP.unwish {D : Ends} {f : Flow} {s' : Shared} (h : SP (X.wish E) pins D f s') : SP X pins D f s' := by
  cases f with
  | next => obtain ⟨σ', H', I, q⟩ := h; exact ⟨σ', H', I.unwish, q⟩
  | brk => obtain ⟨σ', H', I, q⟩ := h; exact ⟨σ', H', I.unwish, q⟩
  | cont => obtain ⟨σ', H', I, q⟩ := h; exact ⟨σ', H', I.unwish, q⟩
  | ret u => obtain ⟨v, σ', H', I, r, q⟩ := h; exact ⟨v, σ', H', I.unwish, r, q⟩
theorem PE.nox {e : Expr} {t : TE} (h : PE X.nox e t) : PE X e t := fun pins s σ H Q I hw =>
  wpAny_mono (h pins s σ H Q (I.wish _) hw) (fun _ _ ⟨v, H', I', r, q⟩ => ⟨v, H', I'.unwish, r, q⟩) fun _ _ z => False.elim z
theorem PT.nox {e : Expr} {t : TT} (h : PT X.nox e t) : PT X e t := fun pins s σ H Q I hw =>
  wpAny_mono (h pins s σ H Q (I.wish _) hw) (fun _ _ ⟨H', I', q⟩ => ⟨H', I'.unwish, q⟩) fun _ _ z => False.elim z
theorem PSs.nox {st : List Stmt} {t : TS} (h : PSs X.nox st t) : PSs X st t := fun pins s σ H D I hw =>
  wpAny_mono (h pins s σ H D (I.wish _) hw) (fun _ _ q => q.unwish) fun _ _ z => False.elim z
end

/-! ### blocks and small statements -/
section
variable {X : Cx} {st : Stmt} {rest : List Stmt} {t u : TS} {e : Expr} {te : TE} {pos : Pos}
def tNext : TS := fun D σ H => D.nx σ H
def tSeq (t u : TS) : TS := fun D σ H => t { D with nx := u D } σ H
theorem pss_nil : PSs X [] tNext := fun _ _ σ H _ I h => wpAny_execs_nil ⟨σ, H, I, h⟩
theorem pss_cons (h1 : PS X st t) (h2 : PSs X rest u) : PSs X (st :: rest) (tSeq t u) := by
  intro pins s σ H D I h
  refine wpAny_execs_cons (thn (h1 pins s σ H { D with nx := u D } I h) fun f s1 q => ?_)
  cases f with
  | next =>
    obtain ⟨σ', H', I', q⟩ := q
    exact h2 pins s1 σ' H' D I' q
  | ret v => exact q
  | brk => exact q
  | cont => exact q
theorem pss_one (h1 : PS X st t) : PSs X [st] t := by
  intro pins s σ H D I h
  refine wpAny_execs_cons (thn (h1 pins s σ H D I h) fun f s1 q => ?_)
  cases f with
  | next => exact wpAny_execs_nil q
  | ret v => exact q
  | brk => exact q
  | cont => exact q
/-- in a def's body nothing is shown -/
theorem Inv.quiet {pins : List (Addr × Obj)} {σ : St} {H : Hp} {s : Shared} (I : Inv X pins σ H s) : interactive X.env = false := by simp [interactive, I.ok.kind]
/-- an expression whose value is dropped -/
def tDrop (te : TE) : TS := fun D σ H => te σ H fun _ H1 => D.nx σ H1
theorem ps_expr (he : PE X e te) (hs : swapsWith e none pos.line X.env = pure false := by rfl) : PS X (.Expr e pos) (tDrop te) := by
  intro pins s σ H D I h
  exact wpAny_Expr_any (thn (he pins s σ H _ I h) fun v s1 ⟨x, H1, I1, r1, q1⟩ => ⟨σ, H1, I1, q1⟩) I.quiet hs
def tRet (te : TE) : TS := fun D σ H => te σ H D.rt
theorem ps_ret (he : PE X e te) : PS X (.Return (some e) pos) (tRet te) := by
  intro pins s σ H D I h
  exact wpAny_Return_some (thn (he pins s σ H _ I h) fun v s1 ⟨x, H1, I1, r1, q1⟩ => ⟨x, σ, H1, I1, r1, q1⟩)
def tIfS (c : TT) (t u : TS) : TS := fun D σ H => c σ H fun b H1 => if b = true then t D σ H1 else u D σ H1
theorem ps_if {c : Expr} {a b : List Stmt} {tc : TT} (hc : PT X c tc) (ha : PSs X a t) (hb : PSs X b u) : PS X (.If c a b pos) (tIfS tc t u) := by
  intro pins s σ H D I h
  refine wpAny_If (thn (hc pins s σ H _ I h) fun d s1 ⟨H1, I1, q1⟩ => ?_)
  cases d with
  | true => exact ha pins s1 σ H1 D I1 q1
  | false => exact hb pins s1 σ H1 D I1 q1
/-- code that the proof never comes to -/
def tNever : TS := fun _ _ _ => False
theorem ps_never : PS X st tNever := fun _ _ _ _ _ _ h => h.elim
end

/-! ### targets -/
abbrev TG := V → St → Hp → (St → Hp → Prop) → Prop
def PG (X : Cx) (target : Expr) (t : TG) : Prop :=
  ∀ (pins : List (Addr × Obj)) (s : Shared) (σ : St) (H : Hp) (v : V) (u : Value) (Q : St → Hp → Prop), Inv X pins σ H s → RelV v u → t v σ H Q →
    wpAny (model X.prog X.w) X.A (assign target X.env u) (fun _ s' => ∃ σ' H', Inv X pins σ' H' s' ∧ Q σ' H') X.xe s
section
variable {X : Cx} {pos : Pos}
def gName (i : Nat) : TG := fun v σ H Q => Q (σ.set i (some v)) H
theorem pg_name {i : Nat} {x : Str} (hN : X.N.Nodup) (hi : X.N[i]? = some x) (hx : Loc X.env.scope x) (hf : X.fn x = true ∨ X.env.scope.names.lookup x = some .local := by first | exact .inl rfl | exact .inr rfl | assumption) : PG X (.Name x pos) (gName i) := by
  intro pins s σ H v u Q I r h
  exact wpAny_assign_Name (store_ok I hN hi hx r (fun s' I' => ⟨_, H, I', h⟩) hf)
/-- target = value -/
def tAsg (te : TE) (g : TG) : TS := fun D σ H => te σ H fun x H1 => g x σ H1 D.nx
/-- name = value -/
theorem ps_set {i : Nat} {x : Str} {e : Expr} {te : TE} {pos' : Pos} (hN : X.N.Nodup) (hi : X.N[i]? = some x) (hx : Loc X.env.scope x) (he : PE X e te) (hs : swapsWith e (some (.Name x pos')) pos.line X.env = pure false := by rfl) (hf : X.fn x = true ∨ X.env.scope.names.lookup x = some .local := by first | exact .inl rfl | exact .inr rfl | assumption) :
    PS X (.Assign [.Name x pos'] e pos) (tAsg te (gName i)) := by
  intro pins s σ H D I h
  refine wpAny_Assign_Name (thn (he pins s σ H _ I h) fun v s1 ⟨y, H1, I1, r1, q1⟩ => ?_) hs
  exact store_ok I1 hN hi hx r1 (fun s2 I2 => ⟨_, H1, I2, q1⟩) hf
end

/-! ### while -/
section
variable {X : Cx} {pos : Pos}
/-- the invariant W with its measure -/
def tWhile (c : TT) (tb : TS) : TS := fun D σ H => ∃ W : Nat → St → Hp → Prop, (∃ m, W m σ H) ∧ ∀ m σ H, W m σ H →
  c σ H fun b H1 => if b = true then ∃ N : St → Hp → Prop, (∀ σ' H', N σ' H' → ∃ m', m' < m ∧ W m' σ' H') ∧ tb { D with nx := N, ct := N, bk := D.nx } σ H1 else D.nx σ H1
theorem ps_while {c : Expr} {body : List Stmt} {tc : TT} {tb : TS} (hp : PassesOwn (model X.prog X.w) X.A X.env X.xe) (hc : PT X c tc) (hb : PSs X body tb) : PS X (.While c body [] pos) (tWhile tc tb) := by
  intro pins s σ H D I h
  obtain ⟨W, ⟨m0, w0⟩, turn⟩ := h
  refine wpAny_While (codeAny_whileLoop (fun n s' => ∃ σ' H', Inv X pins σ' H' s' ∧ W n σ' H') ?_ m0 ⟨σ, H, I, w0⟩)
  rintro n s1 ⟨σ1, H1, I1, w1⟩
  refine wpAny_passesOwn hp (thn (hc pins s1 σ1 H1 _ I1 (turn n σ1 H1 w1)) fun b s2 ⟨H2, I2, q2⟩ => ?_)
  cases b with
  | true =>
    obtain ⟨N, hN, q2⟩ := q2
    rw [if_pos rfl]
    refine wpAny_passesOwn hp (thn (hb pins s2 σ1 H2 _ I2 q2) fun f s3 q3 => ?_)
    cases f with
    | next =>
      obtain ⟨σ3, H3, I3, n3⟩ := q3
      obtain ⟨m', hm, w3⟩ := hN σ3 H3 n3
      exact ⟨m', hm, σ3, H3, I3, w3⟩
    | cont =>
      obtain ⟨σ3, H3, I3, n3⟩ := q3
      obtain ⟨m', hm, w3⟩ := hN σ3 H3 n3
      exact ⟨m', hm, σ3, H3, I3, w3⟩
    | brk => exact q3
    | ret v => exact q3
  | false =>
    rw [if_neg Bool.false_ne_true]
    exact wpAny_execs_nil ⟨σ1, H2, I2, q2⟩
end

/-! ### what a loop or a comprehension walks -/
/-- at turn i: it yields x (the heap may grow), or it stops -/
structure It where
  go : Nat → Hp → Prop
  yld : Nat → Hp → V → Hp → Prop
  stop : Nat → Hp → Prop
/-- the iterator's own objects may turn: they are not the frame's, not pinned, younger than the entry (or a comprehension's own) -/
def FpOk (X : Cx) (pins : List (Addr × Obj)) (H : Hp) (b : Addr) : Prop :=
  H b = none ∧ b ≠ X.env.locals ∧ b ∉ X.fs ∧ (b ∈ X.ex ∨ X.s₀.heap.objs.size ≤ b) ∧ (∀ x c, X.env.cells.lookup x = some c → c ≠ b) ∧ ∀ p ∈ X.pn ++ pins, p.1 ≠ b
theorem Inv.fpOk {X : Cx} {pins : List (Addr × Obj)} {σ : St} {H H' : Hp} {s : Shared} {b : Addr} (I : Inv X pins σ H s) (hb : s.heap.objs.size ≤ b) (hn : H' b = none) : FpOk X pins H' b := by
  refine ⟨hn, Nat.ne_of_gt (Nat.lt_of_lt_of_le I.lt hb), I.nofs hb, .inr (Nat.le_trans I.sz hb), fun x c e z => ?_, fun p hp z => ?_⟩
  · obtain ⟨v, q⟩ := I.cell x c e
    exact absurd (Nat.lt_of_lt_of_le q.lt (by rw [z]; exact hb)) (Nat.lt_irrefl _)
  · exact absurd (Nat.lt_of_lt_of_le (Heap.lt_size (I.pin p hp).1) (by rw [z]; exact hb)) (Nat.lt_irrefl _)
structure Turn (P : Program) (w : World) (K : PySem.W.Frag) (tg : Expr) (J : It) (fp : List Addr) (it : Addr) (tn : Nat → Heap → Prop) : Prop where
  mem : it ∈ fp
  obj : ∀ i h, tn i h → ∀ b ∈ fp, ∃ o, h.get? b = some o ∧ ∀ v, o.data ≠ .cell v
  keep : ∀ i h h', tn i h → (∀ b ∈ fp, ∀ o, h.get? b = some o → h'.get? b = some o) → tn i h'
  item : ∀ (X : Cx), X.prog = P → X.w = w → X.K = K → X.calm = true → ∀ (i : Nat) (pins : List (Addr × Obj)) (s : Shared) (σ : St) (H : Hp) (E : Value → Shared → Prop), Inv X pins σ H s → (∀ b ∈ fp, FpOk X pins H b) → tn i s.heap → J.go i H →
    wpAny (model P w) X.A (pyNext (.ref it)) (fun r s1 => ∃ u, r = some u ∧
      wpAny (model P w) X.A (letOwnedTupleGo tg (.ref it) u) (fun _ s2 => ∃ x H', Inv X pins σ H' s2 ∧ RelV x u ∧ J.yld i H x H' ∧ tn (i + 1) s2.heap ∧ ∀ b ∈ fp, H' b = none) E s1) E s
  done : ∀ (X : Cx), X.prog = P → X.w = w → X.K = K → X.calm = true → ∀ (i : Nat) (pins : List (Addr × Obj)) (s : Shared) (σ : St) (H : Hp) (E : Value → Shared → Prop), Inv X pins σ H s → (∀ b ∈ fp, FpOk X pins H b) → tn i s.heap → J.stop i H →
    wpAny (model P w) X.A (pyNext (.ref it)) (fun r s1 => r = none ∧ Inv X pins σ H s1) E s
  self : ∀ (A : Around) (i : Nat) (s : Shared) (Q : Value → Shared → Prop) (E : Value → Shared → Prop), tn i s.heap → Q (.ref it) s → wpAny (model P w) A (pyIter (.ref it)) Q E s
abbrev TI := St → Hp → (It → Hp → Prop) → Prop
/-- an iterator has come -/
def PIE (X : Cx) (pins : List (Addr × Obj)) (σ : St) (tg : Expr) (R : It → Hp → Prop) (itv : Value) (s2 : Shared) : Prop :=
  ∃ (it : Addr) (fp : List Addr) (tn : Nat → Heap → Prop) (J : It) (H' : Hp), itv = .ref it ∧ Inv X pins σ H' s2 ∧ Turn X.prog X.w X.K tg J fp it tn ∧ tn 0 s2.heap ∧ (∀ b ∈ fp, FpOk X pins H' b) ∧ R J H'
def PI (X : Cx) (tg iter : Expr) (wi : TI) : Prop :=
  ∀ (pins : List (Addr × Obj)) (s : Shared) (σ : St) (H : Hp) (R : It → Hp → Prop), Inv X pins σ H s → wi σ H R →
    wpAny (model X.prog X.w) X.A (eval iter X.env) (fun v s1 => wpAny (model X.prog X.w) X.A (pyIter v) (PIE X pins σ tg R) X.xe s1) X.xe s

/-- the step ahead of the store is nothing for an iterator that keeps no tuple -/
theorem go_of {M : Model} {A : Around} {E : Value → Shared → Prop} {s : Shared} {tg : Expr} {it : Addr} {u : Value} {o : Obj} {n : String} {vs : Array Value} {Q : Unit → Shared → Prop} (ho : s.heap.get? it = some o) (hc : o.cls = .type n) (hd : o.data = .fields vs)
    (hn : ["enumerate", "zip", "dict_itemiterator", "dict_reverseitemiterator", "odict_iterator", "itertools.zip_longest", "itertools.pairwise"].contains n = false) (hQ : Q () s) : wpAny M A (letOwnedTupleGo tg (.ref it) u) Q E s := by
  unfold letOwnedTupleGo
  cases tg <;> first
    | exact wpAny_pure hQ
    | (cases u <;> first
        | exact wpAny_pure hQ
        | (refine wpAny_bind (wpAny_load ho ?_)
           rw [hc, hd]
           show wpAny M A (if (["enumerate", "zip", "dict_itemiterator", "dict_reverseitemiterator", "odict_iterator", "itertools.zip_longest", "itertools.pairwise"].contains n && vs[0]? == some (rawInt _)) = true then _ else _) Q E s
           rw [if_neg (by intro h; rw [hn, Bool.false_and] at h; cases h)]
           exact wpAny_pure hQ))

/-- the list at a, as it stands at each turn (a loop may append to it) -/
def Itl (K : PySem.W.Frag) (a : Addr) : It :=
  ⟨fun i H => ∃ xs x, SqL K H a xs ∧ xs[i]? = some x, fun i H x H' => H' = H ∧ ∀ xs, SqL K H a xs → xs[i]? = some x, fun i H => ∃ xs, SqL K H a xs ∧ xs.length ≤ i⟩
/-- lo, lo + 1, .. (n of them) -/
def Itr (lo : Int) (n : Nat) : It := ⟨fun i _ => i < n, fun i H x H' => H' = H ∧ x = .int (lo + i), fun i _ => n ≤ i⟩
theorem turn_list {P : Program} {w : World} {K : PySem.W.Frag} {tg : Expr} (a it : Addr) : Turn P w K tg (Itl K a) [it] it (fun i h => h.IsListIter it a i) where
  mem := by simp
  obj := fun i h st b hb => by
    have e : b = it := by simpa using hb
    subst e
    obtain ⟨o, e, c, d⟩ := st
    exact ⟨o, e, fun v z => by rw [d] at z; cases z⟩
  keep := fun i h h' st k => st.at fun o e => k it (by simp) o e
  item := by
    intro X hP hw hK hc i pins s σ H E I hf st hg
    subst hP hw hK
    obtain ⟨xs, x, hq, hx⟩ := hg
    obtain ⟨its, rv, p, hz⟩ := I.list hq
    obtain ⟨u, hu, ru⟩ := rv.get hx
    obtain ⟨f0, f1, f2, f3, f4, f5⟩ := hf it (by simp)
    refine wpAny_pyNext_list_item st p.isList (x := u) (by simpa using hu) fun h' st' sb => ?_
    have I1 : Inv X pins σ H { s with heap := h' } := I.turned (t' := s.toks) (fun b o hb e => (sb.2 b hb).trans e) f0 f1 f3 f4 f5
    obtain ⟨o, e, c, d⟩ := id st'
    exact ⟨u, rfl, go_of (s := { s with heap := h' }) e c d (by decide) ⟨x, H, I1, ru, ⟨rfl, fun ys hy => by rw [I.list_inj hy hq]; exact hx⟩, st', fun b hb => (hf b hb).1⟩⟩
  done := by
    intro X hP hw hK hc i pins s σ H E I hf st hg
    subst hP hw hK
    obtain ⟨xs, hq, hx⟩ := hg
    obtain ⟨its, rv, p, hz⟩ := I.list hq
    obtain ⟨f0, f1, f2, f3, f4, f5⟩ := hf it (by simp)
    have hl := rv.length
    exact wpAny_pyNext_list_end (I.ok.hd hc) st p.isList (by simp; omega) fun h' eb => ⟨rfl, I.turned (t' := s.toks) (fun b o hb e => eb b o hb e) f0 f1 f3 f4 f5⟩
  self := fun _ _ _ _ _ st h => wpAny_pyIter_listiter st h
theorem turn_range {P : Program} {w : World} {K : PySem.W.Frag} {tg : Expr} (it : Addr) (lo : Int) (n : Nat) : Turn P w K tg (Itr lo n) [it] it (fun i h => IsRangeIter h it (lo + (i : Nat) * 1) ((n : Int) - (i : Nat)) 1) where
  mem := by simp
  obj := fun i h st b hb => by
    have e : b = it := by simpa using hb
    subst e
    exact ⟨_, st, fun v z => by
      have z' : Data.fields _ = Data.cell v := z
      cases z'⟩
  keep := fun i h h' st k => k it (by simp) _ st
  item := by
    intro X hP hw hK hc i pins s σ H E I hf st hg
    subst hP hw hK
    obtain ⟨f0, f1, f2, f3, f4, f5⟩ := hf it (by simp)
    have W := Walks.range (prog := X.prog) (w := X.w) (I.ok.hd hc) it lo 1 n
    refine W.item i s _ _ hg st fun v h' tk hv st' kk => ?_
    obtain ⟨t, rfl⟩ := hv
    have I1 : Inv X pins σ H { s with heap := h', toks := tk } := I.turned (fun b o hb e => kk b o (by simpa using hb) e) f0 f1 f3 f4 f5
    refine ⟨_, rfl, go_of (s := { s with heap := h', toks := tk }) (n := "range_iterator") st' rfl rfl (by decide) ⟨.int (lo + i), H, I1, ⟨t, ?_⟩, ⟨rfl, rfl⟩, st', fun b hb => (hf b hb).1⟩⟩
    rw [Int.mul_one]
  done := by
    intro X hP hw hK hc i pins s σ H E I hf st hg
    subst hP hw hK
    obtain ⟨f0, f1, f2, f3, f4, f5⟩ := hf it (by simp)
    exact wpAny_pyNext_range_end (I.ok.hd hc) st (by have : n ≤ i := hg; omega) fun h' eb => ⟨rfl, I.turned (t' := s.toks) (fun b o hb e => eb b o hb e) f0 f1 f3 f4 f5⟩
  self := fun _ _ _ _ _ st h => wpAny_pyIter_rangeiter st h
end L2

namespace L2
open PySem PySem.Spec PyProof.Rows
section
variable {X : Cx} {tg : Expr}
def iList (K : PySem.W.Frag) (tl : TE) : TI := fun σ H R => tl σ H fun x H1 => ∃ a, x = .ref a ∧ (∃ xs, SqL K H1 a xs) ∧ R (Itl K a) H1
theorem pi_list {l : Expr} {tl : TE} (hl : PE X l tl) : PI X tg l (iList X.K tl) := by
  intro pins s σ H R I h
  refine thn (hl pins s σ H _ I h) fun v s1 ⟨x, H1, I1, r1, q1⟩ => ?_
  obtain ⟨a, e, ⟨xs, hq⟩, q⟩ := q1
  subst e
  cases r1
  obtain ⟨its, rv, p, hz⟩ := I1.list hq
  refine wpAny_pyIter_list p.isList ?_
  refine ⟨s1.heap.objs.size, [s1.heap.objs.size], _, _, H1, rfl, I1.kept (t' := s1.toks) fun b o e => Heap.get?_push_of_some _ e, turn_list a _, ⟨_, Heap.get?_push_size _ rfl, rfl, rfl⟩, fun b hb => ?_, q⟩
  have e : b = s1.heap.objs.size := by simpa using hb
  subst e
  exact I1.fpOk (Nat.le_refl _) (I1.hok.fresh (Nat.le_refl _))
/-- a range object just made, walked -/
theorem range_it {pins : List (Addr × Obj)} {σ : St} {H : Hp} {s : Shared} {R : It → Hp → Prop} {E : Value → Shared → Prop} {lo hi : Int} {t u v : Tok} {tk : Nat} (I : Inv X pins σ H s) (h1 : -(2 ^ 62) ≤ lo) (h2 : lo < 2 ^ 62) (h3 : -(2 ^ 62) ≤ hi) (h4 : hi < 2 ^ 62)
    (q : R (Itr lo (hi - lo).toNat) H) : wpAny (model X.prog X.w) X.A (pyIter (.ref s.heap.objs.size)) (PIE X pins σ tg R) E { s with heap := s.heap.push { cls := .type "range", data := .fields #[.int lo t, .int hi u, .int 1 v] }, toks := tk } := by
  refine wpAny_pyIter_range (IsRange.new ..) (small_one h1 h2 h3 h4) ?_
  have I1 : Inv X pins σ H { s with heap := s.heap.push { cls := .type "range", data := .fields #[.int lo t, .int hi u, .int 1 v] }, toks := tk } := I.kept fun b o e => Heap.get?_push_of_some _ e
  refine ⟨(s.heap.push { cls := .type "range", data := .fields #[.int lo t, .int hi u, .int 1 v] }).objs.size, [(s.heap.push { cls := .type "range", data := .fields #[.int lo t, .int hi u, .int 1 v] }).objs.size], _, _, H, rfl,
    I1.kept (t' := tk) fun b o e => Heap.get?_push_of_some _ e, turn_range _ lo (hi - lo).toNat, ?_, fun b hb => ?_, q⟩
  · have e1 : lo + ((0 : Nat) : Int) * 1 = lo := by simp
    have e2 : (((hi - lo).toNat : Nat) : Int) - ((0 : Nat) : Int) = Builtin.Range.rangeSize lo hi 1 := by rw [rangeSize_one]; split <;> omega
    show IsRangeIter _ _ (lo + ((0 : Nat) : Int) * 1) ((((hi - lo).toNat : Nat) : Int) - ((0 : Nat) : Int)) 1
    rw [e1, e2]
    exact Heap.get?_push_size _ rfl
  · have e : b = (s.heap.push { cls := .type "range", data := .fields #[.int lo t, .int hi u, .int 1 v] }).objs.size := by simpa using hb
    subst e
    exact I1.fpOk (Nat.le_refl _) (I1.hok.fresh (Nat.le_refl _))
def iRng1 (ta : TA) : TI := fun σ H R => ta σ H fun vs H1 => ∃ j : Int, vs = [.int j] ∧ -(2 ^ 62) ≤ j ∧ j < 2 ^ 62 ∧ R (Itr 0 j.toNat) H1
def iRng2 (ta : TA) : TI := fun σ H R => ta σ H fun vs H1 => ∃ i j : Int, vs = [.int i, .int j] ∧ (-(2 ^ 62) ≤ i ∧ i < 2 ^ 62 ∧ -(2 ^ 62) ≤ j ∧ j < 2 ^ 62) ∧ R (Itr i (j - i).toNat) H1
theorem pi_range1 {a : Expr} {ta : TA} {p pos : Pos} (hg : Gl X "range") (hm : X.mg "range" = none) (ha : PA X [a] ta) (hs : starEach [a] X.env = [(false, eval a X.env)] := by rfl) : PI X tg (.Call (.Name "range" p) [a] [] pos) (iRng1 ta) := by
  intro pins s σ H R I h
  refine Call_ (ld_blt I hg hm boot_range (PyProof.Rows.callWith_type1 (thn (ha pos pins s σ H _ I h) fun us s1 ⟨vs, H1, I1, r1, q1⟩ => ?_) hs rfl))
  obtain ⟨j, e, q1, q2, q⟩ := q1
  subst e
  cases r1 with
  | cons r rr =>
    cases rr
    obtain ⟨t, rfl⟩ := r
    exact call_range_1 (range_it I1 (by omega) (by omega) q1 q2 (by simpa using q))
theorem pi_range2 {a b : Expr} {ta : TA} {p pos : Pos} (hg : Gl X "range") (hm : X.mg "range" = none) (ha : PA X [a, b] ta) (hs : starEach [a, b] X.env = [(false, eval a X.env), (false, eval b X.env)] := by rfl) (hs2 : starEach [b] X.env = [(false, eval b X.env)] := by rfl) :
    PI X tg (.Call (.Name "range" p) [a, b] [] pos) (iRng2 ta) := by
  intro pins s σ H R I h
  refine Call_ (ld_blt I hg hm boot_range (PyProof.Rows.callWith_type1 (thn (ha pos pins s σ H _ I h) fun us s1 ⟨vs, H1, I1, r1, q1⟩ => ?_) (by rw [hs, hs2]) (by rw [hs2]; rfl)))
  obtain ⟨i, j, e, ⟨q1, q2, q3, q4⟩, q⟩ := q1
  subst e
  cases r1 with
  | cons r rr =>
    cases rr with
    | cons r' rr =>
      cases rr
      obtain ⟨t, rfl⟩ := r
      obtain ⟨t', rfl⟩ := r'
      exact call_range_2 (range_it I1 q1 q2 q3 q4 q)

/-! ### for -/
/-- W: the invariant by the turn and a measure; N: what the body is to reach -/
def tFor (wi : TI) (g : TG) (tb : TS) : TS := fun D σ H => wi σ H fun J H1 => ∃ W : Nat → Nat → St → Hp → Prop, (∃ m, W 0 m σ H1) ∧ ∀ i m σ H, W i m σ H →
  (J.stop i H ∧ D.nx σ H) ∨ (J.go i H ∧ ∃ N : St → Hp → Prop, (∀ σ' H', N σ' H' → ∃ m', m' < m ∧ W (i + 1) m' σ' H') ∧ ∀ x H', J.yld i H x H' → g x σ H' fun σ2 H2 => tb { D with nx := N, ct := N, bk := D.nx } σ2 H2)
/-- the records at fp as they stand -/
def pinsAt (fp : List Addr) (h : Heap) : List (Addr × Obj) := fp.filterMap fun b => (h.get? b).map fun o => (b, o)
theorem mem_pinsAt {fp : List Addr} {h : Heap} {b : Addr} {o : Obj} (hb : b ∈ fp) (e : h.get? b = some o) : (b, o) ∈ pinsAt fp h := List.mem_filterMap.mpr ⟨b, hb, by rw [e]; rfl⟩
theorem of_pinsAt {fp : List Addr} {h : Heap} {p : Addr × Obj} (hp : p ∈ pinsAt fp h) : p.1 ∈ fp ∧ h.get? p.1 = some p.2 := by
  obtain ⟨b, hb, e⟩ := List.mem_filterMap.mp hp
  cases q : h.get? b with
  | none => rw [q] at e; cases e
  | some o =>
    rw [q] at e
    have e' : (b, o) = p := Option.some.inj e
    subst e'
    exact ⟨hb, q⟩
theorem Inv.pinned {pins : List (Addr × Obj)} {σ : St} {H : Hp} {s : Shared} {fp : List Addr} (I : Inv X pins σ H s) (hf : ∀ b ∈ fp, FpOk X pins H b) (ho : ∀ b ∈ fp, ∃ o, s.heap.get? b = some o ∧ ∀ v, o.data ≠ .cell v) : Inv X (pins ++ pinsAt fp s.heap) σ H s :=
  I.pins_of fun p hp => (List.mem_append.mp hp).elim (fun z => I.pin p (List.mem_append_right _ z)) fun z => by
    obtain ⟨hb, e⟩ := of_pinsAt z
    obtain ⟨f0, f1, f2, _⟩ := hf p.1 hb
    obtain ⟨o, e', d⟩ := ho p.1 hb
    rw [e] at e'; cases e'
    exact ⟨e, f0, f1, f2, d⟩
theorem Inv.unpinned {pins pl : List (Addr × Obj)} {σ : St} {H : Hp} {s : Shared} (I : Inv X (pins ++ pl) σ H s) : Inv X pins σ H s := I.pins_of fun p hp => I.pin p (List.mem_append_right _ (List.mem_append_left _ hp))
theorem ps_for {iter : Expr} {body : List Stmt} {wi : TI} {g : TG} {tb : TS} {pos : Pos} (hp : PassesOwn (model X.prog X.w) X.A X.env X.xe) (hc : X.calm = true) (hi : PI X tg iter wi) (hg : PG X tg g) (hb : PSs X body tb)
    (hs : ∀ x, foldedSetIterable iter X.env x = pure x := by intro _; rfl) : PS X (.For tg iter body [] pos) (tFor wi g tb) := by
  intro pins s σ H D I h
  refine wpAny_For (thn (hi pins s σ H _ I h) fun v s1 h1 => thn h1 fun itv s2 h2 => ?_) hs
  obtain ⟨it, fp, tn, J, H2, e, I2, T, st2, f2, W, ⟨m0, w0⟩, turn⟩ := h2
  subst e
  -- what stays true of the iterator's objects through the loop
  have stat : ∀ {H' : Hp}, (∀ b ∈ fp, H' b = none) → ∀ b ∈ fp, FpOk X pins H' b := fun hn b hb => ⟨hn b hb, (f2 b hb).2⟩
  refine codeAny_forLoop_any (fun n s' => ∃ i σ' H', Inv X pins σ' H' s' ∧ tn i s'.heap ∧ (∀ b ∈ fp, H' b = none) ∧ W i n σ' H') ?_ m0 ⟨0, σ, H2, I2, st2, fun b hb => (f2 b hb).1, w0⟩
  rintro n s3 ⟨i, σ3, H3, I3, st3, fr3, w3⟩
  rcases turn i n σ3 H3 w3 with ⟨stop, qn⟩ | ⟨go, N, hN, step⟩
  · refine wpAny_passesOwn hp (thn (T.done X rfl rfl rfl hc i pins s3 σ3 H3 X.xe I3 (stat fr3) st3 stop) fun r s4 ⟨hr, I4⟩ => ?_)
    subst hr
    exact wpAny_execs_nil ⟨σ3, H3, I4, qn⟩
  · refine wpAny_passesOwn hp (thn (T.item X rfl rfl rfl hc i pins s3 σ3 H3 X.xe I3 (stat fr3) st3 go) fun r s4 ⟨u, hr, h4⟩ => ?_)
    subst hr
    refine wpAny_passesOwn hp (thn h4 fun _ s5 ⟨x, H5, I5, r5, y5, st5, fr5⟩ => ?_)
    have I5' := I5.pinned (stat fr5) (T.obj _ _ st5)
    refine wpAny_passesOwn hp (thn (hg _ s5 σ3 H5 x u _ I5' r5 (step x H5 y5)) fun _ s6 ⟨σ6, H6, I6, q6⟩ => ?_)
    refine wpAny_passesOwn hp (thn (hb _ s6 σ6 H6 _ I6 q6) fun f s7 q7 => ?_)
    have again : ∀ {σ7 : St} {H7 : Hp}, Inv X (pins ++ pinsAt fp s5.heap) σ7 H7 s7 → N σ7 H7 → ∃ m, m < n ∧ ∃ i σ' H', Inv X pins σ' H' s7 ∧ tn i s7.heap ∧ (∀ b ∈ fp, H' b = none) ∧ W i m σ' H' := fun {σ7 H7} I7 n7 => by
      obtain ⟨m', hm, w7⟩ := hN σ7 H7 n7
      refine ⟨m', hm, i + 1, σ7, H7, I7.unpinned, T.keep _ _ _ st5 fun b hb o e => (I7.pin (b, o) (List.mem_append_right _ (List.mem_append_right _ (mem_pinsAt hb e)))).1, fun b hb => ?_, w7⟩
      obtain ⟨o, e, d⟩ := T.obj _ _ st5 b hb
      exact (I7.pin (b, o) (List.mem_append_right _ (List.mem_append_right _ (mem_pinsAt hb e)))).2.1
    cases f with
    | next => obtain ⟨σ7, H7, I7, n7⟩ := q7; exact again I7 n7
    | cont => obtain ⟨σ7, H7, I7, n7⟩ := q7; exact again I7 n7
    | brk => obtain ⟨σ7, H7, I7, q7⟩ := q7; exact ⟨σ7, H7, I7.unpinned, q7⟩
    | ret v => obtain ⟨x7, σ7, H7, I7, r7, q7⟩ := q7; exact ⟨x7, σ7, H7, I7.unpinned, r7, q7⟩
end

/-! ### the forms one uses -/
/-- over a list that the body leaves as it is -/
theorem for_list {K : PySem.W.Frag} {a : Addr} {xs : List V} {g : TG} {tb : TS} {D : Ends} {σ : St} {H : Hp} (Pv : Nat → St → Hp → Prop) (h0 : Pv 0 σ H) (hl : ∀ i σ H, i ≤ xs.length → Pv i σ H → SqL K H a xs)
    (hs : ∀ i x σ H, xs[i]? = some x → Pv i σ H → g x σ H fun σ2 H2 => tb { D with nx := Pv (i + 1), ct := Pv (i + 1), bk := D.nx } σ2 H2) (hd : ∀ σ H, Pv xs.length σ H → D.nx σ H) :
    ∃ W : Nat → Nat → St → Hp → Prop, (∃ m, W 0 m σ H) ∧ ∀ i m σ H, W i m σ H →
      ((Itl K a).stop i H ∧ D.nx σ H) ∨ ((Itl K a).go i H ∧ ∃ N : St → Hp → Prop, (∀ σ' H', N σ' H' → ∃ m', m' < m ∧ W (i + 1) m' σ' H') ∧ ∀ x H', (Itl K a).yld i H x H' → g x σ H' fun σ2 H2 => tb { D with nx := N, ct := N, bk := D.nx } σ2 H2) := by
  refine ⟨fun i m σ H => m = xs.length - i ∧ i ≤ xs.length ∧ Pv i σ H, ⟨xs.length, by simp, Nat.zero_le _, h0⟩, ?_⟩
  rintro i m σ H ⟨rfl, hi, p⟩
  have q := hl i σ H hi p
  by_cases hlt : i < xs.length
  · refine .inr ⟨⟨xs, xs[i], q, by simp [hlt]⟩, Pv (i + 1), fun σ' H' p' => ⟨xs.length - (i + 1), by omega, rfl, hlt, p'⟩, fun x H' y => ?_⟩
    obtain ⟨e, y⟩ := y
    subst e
    exact hs i x σ _ (y xs q) p
  · have e : i = xs.length := by omega
    subst e
    exact .inl ⟨⟨xs, q, Nat.le_refl _⟩, hd σ H p⟩
theorem for_range {lo : Int} {n : Nat} {g : TG} {tb : TS} {D : Ends} {σ : St} {H : Hp} (Pv : Nat → St → Hp → Prop) (h0 : Pv 0 σ H)
    (hs : ∀ i σ H, i < n → Pv i σ H → g (.int (lo + i)) σ H fun σ2 H2 => tb { D with nx := Pv (i + 1), ct := Pv (i + 1), bk := D.nx } σ2 H2) (hd : ∀ σ H, Pv n σ H → D.nx σ H) :
    ∃ W : Nat → Nat → St → Hp → Prop, (∃ m, W 0 m σ H) ∧ ∀ i m σ H, W i m σ H →
      ((Itr lo n).stop i H ∧ D.nx σ H) ∨ ((Itr lo n).go i H ∧ ∃ N : St → Hp → Prop, (∀ σ' H', N σ' H' → ∃ m', m' < m ∧ W (i + 1) m' σ' H') ∧ ∀ x H', (Itr lo n).yld i H x H' → g x σ H' fun σ2 H2 => tb { D with nx := N, ct := N, bk := D.nx } σ2 H2) := by
  refine ⟨fun i m σ H => m = n - i ∧ i ≤ n ∧ Pv i σ H, ⟨n, by simp, Nat.zero_le _, h0⟩, ?_⟩
  rintro i m σ H ⟨rfl, hi, p⟩
  by_cases hlt : i < n
  · refine .inr ⟨hlt, Pv (i + 1), fun σ' H' p' => ⟨n - (i + 1), by omega, rfl, hlt, p'⟩, fun x H' y => ?_⟩
    obtain ⟨e, y⟩ := y
    subst e y
    exact hs i σ _ hlt p
  · have e : i = n := by omega
    subst e
    exact .inl ⟨Nat.le_refl _, hd σ H p⟩
end L2

namespace L2
open PySem PySem.Spec PyProof.Rows

abbrev R2 := V → V → Hp → VK → Prop
/-- a two-place operation on values: f is binaryOp op, inplaceOp op or compareOp op -/
def OpR (X : Cx) (f : Value → Value → Sem Value) (r : R2) : Prop :=
  ∀ (pins : List (Addr × Obj)) (s : Shared) (σ : St) (H : Hp) (x y : V) (v u : Value) (Q : VK), Inv X pins σ H s → RelV x v → RelV y u → r x y H Q →
    wpAny (model X.prog X.w) X.A (f v u) (EP X pins σ Q) X.xe s
/-- a one-place operation -/
def UnR (X : Cx) (f : Value → Sem Value) (r : V → Hp → VK → Prop) : Prop :=
  ∀ (pins : List (Addr × Obj)) (s : Shared) (σ : St) (H : Hp) (x : V) (v : Value) (Q : VK), Inv X pins σ H s → RelV x v → r x H Q →
    wpAny (model X.prog X.w) X.A (f v) (EP X pins σ Q) X.xe s
/-- a call of a value that is known (a builtin, a type) with values -/
def CallR (X : Cx) (f : Value) (r : List V → Hp → VK → Prop) : Prop :=
  ∀ (pins : List (Addr × Obj)) (s : Shared) (σ : St) (H : Hp) (xs : List V) (us : List Value) (Q : VK), Inv X pins σ H s → Vals xs us → r xs H Q →
    wpAny (model X.prog X.w) X.A (call f us) (EP X pins σ Q) X.xe s
def tOp (r : R2) (ta tb : TE) : TE := fun σ H Q => ta σ H fun x H1 => tb σ H1 fun y H2 => r x y H2 Q
def tUn (r : V → Hp → VK → Prop) (ta : TE) : TE := fun σ H Q => ta σ H fun x H1 => r x H1 Q
/-- ints in, under C, and a value out -/
def rI (C : Int → Int → Prop) (g : Int → Int → V) : R2 := fun x y H Q => ∃ i j, x = .int i ∧ y = .int j ∧ C i j ∧ Q (g i j) H
def rI0 (g : Int → Int → V) : R2 := fun x y H Q => ∃ i j, x = .int i ∧ y = .int j ∧ Q (g i j) H
def rU (g : Int → V) : V → Hp → VK → Prop := fun x H Q => ∃ i, x = .int i ∧ Q (g i) H

section
variable {X : Cx} {a b c : Expr} {ta tb tc : TE} {pos : Pos}

theorem binT (ha : PE X a ta) (hb : PE X b tb) {pins : List (Addr × Obj)} {s : Shared} {σ : St} {H : Hp} {R : V → V → Hp → Prop} (I : Inv X pins σ H s)
    (h : ta σ H fun x H1 => tb σ H1 fun y H2 => R x y H2) {Q : Value → Shared → Prop} {f : Value → Value → Sem Value}
    (hf : ∀ v u s2 x y H2, Inv X pins σ H2 s2 → RelV x v → RelV y u → R x y H2 → wpAny (model X.prog X.w) X.A (f v u) Q X.xe s2) :
    wpAny (model X.prog X.w) X.A (eval a X.env) (fun v s₁ => wpAny (model X.prog X.w) X.A (eval b X.env) (fun u s₂ => wpAny (model X.prog X.w) X.A (f v u) Q X.xe s₂) X.xe s₁) X.xe s := by
  refine thn (ha pins s σ H _ I h) fun v s1 ⟨x, H1, I1, r1, q1⟩ => ?_
  refine thn (hb pins s1 σ H1 _ I1 q1) fun u s2 ⟨y, H2, I2, r2, q2⟩ => ?_
  exact hf v u s2 x y H2 I2 r1 r2 q2

theorem pe_op {op : Operator} {r : R2} (ho : OpR X (binaryOp op) r) (ha : PE X a ta) (hb : PE X b tb) : PE X (.BinOp a op b pos) (tOp r ta tb) := by
  intro pins s σ H Q I h
  exact wpAny_BinOp (binT ha hb I h fun v u s2 x y H2 I2 rx ry q => ho pins s2 σ H2 x y v u Q I2 rx ry q)
theorem pe_un {op : UnaryOp} {r : V → Hp → VK → Prop} (ho : UnR X (unaryOp op) r) (ha : PE X a ta) : PE X (.UnaryOp op a pos) (tUn r ta) := by
  intro pins s σ H Q I h
  exact UnaryOp_ (thn (ha pins s σ H _ I h) fun v s1 ⟨x, H1, I1, r1, q1⟩ => ho pins s1 σ H1 x v Q I1 r1 q1)
/-! ### ints -/
theorem opI {f : Value → Value → Sem Value} {C : Int → Int → Prop} {g : Int → Int → Int}
    (rule : ∀ (i j : Int) (t u : Tok) (s : Shared) (Q : Value → Shared → Prop) (E : Value → Shared → Prop), C i j → Q (.int (g i j) s.toks) { s with toks := s.toks + 1 } → wpAny (model X.prog X.w) X.A (f (.int i t) (.int j u)) Q E s) :
    OpR X f (rI C fun i j => .int (g i j)) := by
  intro pins s σ H x y v u Q I rx ry h
  obtain ⟨i, j, rfl, rfl, hc, q⟩ := h
  obtain ⟨t, rfl⟩ := rx
  obtain ⟨t', rfl⟩ := ry
  exact rule i j t t' s _ _ hc ⟨.int (g i j), H, I.tok _, ⟨_, rfl⟩, q⟩
theorem opI0 {f : Value → Value → Sem Value} {g : Int → Int → Int}
    (rule : ∀ (i j : Int) (t u : Tok) (s : Shared) (Q : Value → Shared → Prop) (E : Value → Shared → Prop), Q (.int (g i j) s.toks) { s with toks := s.toks + 1 } → wpAny (model X.prog X.w) X.A (f (.int i t) (.int j u)) Q E s) :
    OpR X f (rI0 fun i j => .int (g i j)) := by
  intro pins s σ H x y v u Q I rx ry h
  obtain ⟨i, j, rfl, rfl, q⟩ := h
  obtain ⟨t, rfl⟩ := rx
  obtain ⟨t', rfl⟩ := ry
  exact rule i j t t' s _ _ ⟨.int (g i j), H, I.tok _, ⟨_, rfl⟩, q⟩
theorem opB0 {f : Value → Value → Sem Value} {g : Int → Int → Bool}
    (rule : ∀ (i j : Int) (t u : Tok) (s : Shared) (Q : Value → Shared → Prop) (E : Value → Shared → Prop), Q (.bool (g i j)) s → wpAny (model X.prog X.w) X.A (f (.int i t) (.int j u)) Q E s) :
    OpR X f (rI0 fun i j => .bl (g i j)) := by
  intro pins s σ H x y v u Q I rx ry h
  obtain ⟨i, j, rfl, rfl, q⟩ := h
  obtain ⟨t, rfl⟩ := rx
  obtain ⟨t', rfl⟩ := ry
  exact rule i j t t' s _ _ ⟨.bl (g i j), H, I, rfl, q⟩

def CDiv (i j : Int) : Prop := 0 < j ∧ j < 1073741824
def CMul (i j : Int) : Prop := (-(2 ^ 64) < i ∧ i < 2 ^ 64) ∨ (-(2 ^ 64) < j ∧ j < 2 ^ 64)
theorem CMul.ok {i j : Int} (h : CMul i j) : IntMulOk i j := by
  rcases h with ⟨h1, h2⟩ | ⟨h1, h2⟩
  · exact .of_left (intBits_le_64 h1 h2)
  · exact .of_right (intBits_le_64 h1 h2)
theorem op_add : OpR X (binaryOp .Add) (rI0 fun i j => .int (i + j)) := opI0 fun _ _ _ _ _ _ _ q => add_int q
theorem op_sub : OpR X (binaryOp .Sub) (rI0 fun i j => .int (i - j)) := opI0 fun _ _ _ _ _ _ _ q => sub_int q
theorem op_mul : OpR X (binaryOp .Mult) (rI CMul fun i j => .int (i * j)) := opI fun _ _ _ _ _ _ _ hc q => mul_int q hc.ok
/-- // by a positive divisor -/
theorem op_fdiv : OpR X (binaryOp .FloorDiv) (rI CDiv fun i j => .int (i / j)) := opI fun i j _ _ _ _ _ hc q => by
  have h1 : (0 : Int) < j := hc.1
  have h2 : j < 1073741824 := hc.2
  exact floordiv_int (by omega) (by rw [Int.fdiv_eq_ediv_of_nonneg i (by omega)]; exact q) (.inl (PyProof.noPylong_small (by omega)))
/-- % by a positive divisor of any size -/
theorem op_mod : OpR X (binaryOp .Mod) (rI (fun _ j => 0 < j) fun i j => .int (i % j)) := opI fun i j _ _ _ _ _ hc q => by
  have h1 : (0 : Int) < j := hc
  exact mod_int' (by omega) (by rw [Int.fmod_eq_emod_of_nonneg i (by omega)]; exact q)
theorem unI {f : Value → Sem Value} {g : Int → Int}
    (rule : ∀ (i : Int) (t : Tok) (s : Shared) (Q : Value → Shared → Prop) (E : Value → Shared → Prop), Q (.int (g i) s.toks) { s with toks := s.toks + 1 } → wpAny (model X.prog X.w) X.A (f (.int i t)) Q E s) :
    UnR X f (rU fun i => .int (g i)) := by
  intro pins s σ H x v Q I rx h
  obtain ⟨i, rfl, q⟩ := h
  obtain ⟨t, rfl⟩ := rx
  exact rule i t s _ _ ⟨.int (g i), H, I.tok _, ⟨_, rfl⟩, q⟩
theorem un_neg : UnR X (unaryOp .USub) (rU fun i => .int (-i)) := unI fun _ _ _ _ _ q => neg_int q
/-! ### bools among ints: n += (a < b) -/
end

/-! ### comparisons -/
/-- the scalars that == tells apart as data does -/
def scal : V → V → Bool
  | .non, .non => true | .non, .int _ => true | .int _, .non => true | .non, .bl _ => true | .bl _, .non => true | .non, .str _ => true | .str _, .non => true
  | .int _, .int _ => true | .bl _, .bl _ => true | .str _, .str _ => true | .byt _, .byt _ => true
  | .int _, .str _ => true | .str _, .int _ => true | .bl _, .str _ => true | .str _, .bl _ => true
  | _, _ => false
def rEq : R2 := fun x y H Q => scal x y = true ∧ Q (.bl (decide (x = y))) H
def rNe : R2 := fun x y H Q => scal x y = true ∧ Q (.bl (!decide (x = y))) H

theorem dec_int {i j : Int} : decide (V.int i = V.int j) = (i == j) := by
  rw [Bool.eq_iff_iff]
  simp
theorem dec_bl {i j : Bool} : decide (V.bl i = V.bl j) = (i == j) := by
  rw [Bool.eq_iff_iff]
  simp
theorem dec_str {i j : Str} : decide (V.str i = V.str j) = (i == j) := by
  rw [Bool.eq_iff_iff]
  simp
theorem dec_byt {i j : Array UInt8} : decide (V.byt i = V.byt j) = (i.toList == j.toList) := by
  rw [Bool.eq_iff_iff]
  cases i
  cases j
  simp

section
variable {X : Cx} {a b c : Expr} {ta tb tc : TE} {pos : Pos}
theorem fin_bl {pins : List (Addr × Obj)} {σ : St} {H : Hp} {s : Shared} {Q : VK} {k k' : Bool} (I : Inv X pins σ H s) (q : Q (.bl k) H) (e : k = k') : EP X pins σ Q (.bool k') s := by
  subst e
  exact ⟨.bl k, H, I, rfl, q⟩
theorem op_eq : OpR X (compareOp .Eq) rEq := by
  intro pins s σ H x y v u Q I rx ry h
  obtain ⟨hs, q⟩ := h
  cases x with
  | non =>
    cases rx
    cases y with
    | non => cases ry; exact PySem.EqNone.eq_none_none (fin_bl I q (by simp))
    | bl j => cases ry; exact PySem.EqNone.eq_none_bool (fin_bl I q (by simp))
    | int j => obtain ⟨t', rfl⟩ := ry; exact PySem.EqNone.eq_none_int (fin_bl I q (by simp))
    | str j => obtain ⟨t', rfl⟩ := ry; exact PySem.EqNone.eq_none_str (fin_bl I q (by simp))
    | _ => exact absurd (show false = true from hs) Bool.false_ne_true
  | bl i =>
    cases rx
    cases y with
    | non => cases ry; exact PySem.EqNone.eq_bool_none (fin_bl I q (by simp))
    | bl j => cases ry; exact eq_bool (fin_bl I q dec_bl)
    | str j => obtain ⟨t', rfl⟩ := ry; exact PySem.EqMixed.eq_bool_str (fin_bl I q (by simp))
    | _ => exact absurd (show false = true from hs) Bool.false_ne_true
  | int i =>
    obtain ⟨t, rfl⟩ := rx
    cases y with
    | non => cases ry; exact PySem.EqNone.eq_int_none (fin_bl I q (by simp))
    | int j => obtain ⟨t', rfl⟩ := ry; exact eq_int (fin_bl I q dec_int)
    | str j => obtain ⟨t', rfl⟩ := ry; exact PySem.EqMixed.eq_int_str (fin_bl I q (by simp))
    | _ => exact absurd (show false = true from hs) Bool.false_ne_true
  | str i =>
    obtain ⟨t, rfl⟩ := rx
    cases y with
    | non => cases ry; exact PySem.EqNone.eq_str_none (fin_bl I q (by simp))
    | bl j => cases ry; exact PySem.EqMixed.eq_str_bool (fin_bl I q (by simp))
    | int j => obtain ⟨t', rfl⟩ := ry; exact PySem.EqMixed.eq_str_int (fin_bl I q (by simp))
    | str j => obtain ⟨t', rfl⟩ := ry; exact eq_str (fin_bl I q dec_str)
    | _ => exact absurd (show false = true from hs) Bool.false_ne_true
  | byt i =>
    obtain ⟨t, rfl⟩ := rx
    cases y with
    | byt j => obtain ⟨t', rfl⟩ := ry; exact PySem.W.eq_bytes (fin_bl I q dec_byt)
    | _ => exact absurd (show false = true from hs) Bool.false_ne_true
  | _ => cases y <;> exact absurd (show false = true from hs) Bool.false_ne_true
theorem op_ne : OpR X (compareOp .NotEq) rNe := by
  intro pins s σ H x y v u Q I rx ry h
  obtain ⟨hs, q⟩ := h
  cases x with
  | non =>
    cases rx
    cases y with
    | non => cases ry; exact PySem.EqNone.ne_none_none (fin_bl I q (by simp))
    | bl j => cases ry; exact PySem.EqNone.ne_none_bool (fin_bl I q (by simp))
    | int j => obtain ⟨t', rfl⟩ := ry; exact PySem.EqNone.ne_none_int (fin_bl I q (by simp))
    | str j => obtain ⟨t', rfl⟩ := ry; exact PySem.EqNone.ne_none_str (fin_bl I q (by simp))
    | _ => exact absurd (show false = true from hs) Bool.false_ne_true
  | bl i =>
    cases rx
    cases y with
    | non => cases ry; exact PySem.EqNone.ne_bool_none (fin_bl I q (by simp))
    | bl j => cases ry; exact ne_bool (fin_bl I q (congrArg not dec_bl))
    | str j => obtain ⟨t', rfl⟩ := ry; exact PySem.EqMixed.ne_bool_str (fin_bl I q (by simp))
    | _ => exact absurd (show false = true from hs) Bool.false_ne_true
  | int i =>
    obtain ⟨t, rfl⟩ := rx
    cases y with
    | non => cases ry; exact PySem.EqNone.ne_int_none (fin_bl I q (by simp))
    | int j => obtain ⟨t', rfl⟩ := ry; exact ne_int (fin_bl I q (congrArg not dec_int))
    | str j => obtain ⟨t', rfl⟩ := ry; exact PySem.EqMixed.ne_int_str (fin_bl I q (by simp))
    | _ => exact absurd (show false = true from hs) Bool.false_ne_true
  | str i =>
    obtain ⟨t, rfl⟩ := rx
    cases y with
    | non => cases ry; exact PySem.EqNone.ne_str_none (fin_bl I q (by simp))
    | bl j => cases ry; exact PySem.EqMixed.ne_str_bool (fin_bl I q (by simp))
    | int j => obtain ⟨t', rfl⟩ := ry; exact PySem.EqMixed.ne_str_int (fin_bl I q (by simp))
    | str j => obtain ⟨t', rfl⟩ := ry; exact ne_str (fin_bl I q (congrArg not dec_str))
    | _ => exact absurd (show false = true from hs) Bool.false_ne_true
  | byt i =>
    obtain ⟨t, rfl⟩ := rx
    cases y with
    | byt j => obtain ⟨t', rfl⟩ := ry; exact PySem.W.ne_bytes (fin_bl I q (congrArg not dec_byt))
    | _ => exact absurd (show false = true from hs) Bool.false_ne_true
  | _ => cases y <;> exact absurd (show false = true from hs) Bool.false_ne_true

theorem op_lt : OpR X (compareOp .Lt) (rI0 fun i j => .bl (decide (i < j))) := opB0 fun _ _ _ _ _ _ _ q => lt_int q
theorem op_le : OpR X (compareOp .LtE) (rI0 fun i j => .bl (decide (i ≤ j))) := opB0 fun _ _ _ _ _ _ _ q => le_int q
theorem op_gt : OpR X (compareOp .Gt) (rI0 fun i j => .bl (decide (j < i))) := opB0 fun _ _ _ _ _ _ _ q => gt_int q
theorem op_ge : OpR X (compareOp .GtE) (rI0 fun i j => .bl (decide (j ≤ i))) := opB0 fun _ _ _ _ _ _ _ q => ge_int q
/-- is None, is not None: the right side a value none -/
theorem op_isN : OpR X (compareOp .Is) (fun x y H Q => y = .non ∧ Q (.bl (decide (x = .non))) H) := by
  intro pins s σ H x y v u Q I rx ry h
  obtain ⟨rfl, q⟩ := h
  cases ry
  refine is_none_gen (fin_bl I q ?_)
  cases x <;> first
    | (cases rx; rfl)
    | (obtain ⟨t, rfl⟩ := rx; rfl)
theorem op_notN : OpR X (compareOp .IsNot) (fun x y H Q => y = .non ∧ Q (.bl (!decide (x = .non))) H) := by
  intro pins s σ H x y v u Q I rx ry h
  obtain ⟨rfl, q⟩ := h
  cases ry
  refine isnot_none_gen (fin_bl I q ?_)
  cases x <;> first
    | (cases rx; rfl)
    | (obtain ⟨t, rfl⟩ := rx; rfl)

/-- two rules for one operation: by cases -/
theorem OpR.or {f : Value → Value → Sem Value} {r r' : R2} (h : OpR X f r) (h' : OpR X f r') : OpR X f (fun x y H Q => r x y H Q ∨ r' x y H Q) := by
  intro pins s σ H x y v u Q I rx ry q
  rcases q with q | q
  · exact h pins s σ H x y v u Q I rx ry q
  · exact h' pins s σ H x y v u Q I rx ry q

theorem nomark (b : Expr) {op : CmpOp} (h : op ≠ .In := by decide) (h2 : op ≠ .NotIn := by decide) : behindInMarks op b = false := by
  have e1 : (op == CmpOp.In) = false := by cases op <;> first | rfl | exact absurd rfl h
  have e2 : (op == CmpOp.NotIn) = false := by cases op <;> first | rfl | exact absurd rfl h2
  cases b <;> simp [behindInMarks, e1, e2]
/-- a comparison as a value; hm: nomark b, or (for in, not in) by with_unfolding_all rfl -/
theorem pe_cmpR {op : CmpOp} {r : R2} (ho : OpR X (compareOp op) r) (ha : PE X a ta) (hb : PE X b tb) (hm : behindInMarks op b = false) : PE X (.Compare a [op] [b] pos) (tOp r ta tb) := by
  intro pins s σ H Q I h
  exact wpAny_Compare1 (binT ha hb I h fun v u s2 x y H2 I2 rx ry q => ho pins s2 σ H2 x y v u Q I2 rx ry q) hm
/-- a reading of a value as a test -/
def tTest (t : TE) : TT := fun σ H Q => t σ H fun x H' => ∃ k, x = .bl k ∧ Q k H'
theorem pt_cmpR {op : CmpOp} {r : R2} (ho : OpR X (compareOp op) r) (ha : PE X a ta) (hb : PE X b tb) (hm : behindInMarks op b = false) : PT X (.Compare a [op] [b] pos) (tTest (tOp r ta tb)) := by
  intro pins s σ H Q I h
  refine wpAny_isTrue_Compare1 (thn (ha pins s σ H _ I h) fun v s1 ⟨x, H1, I1, r1, q1⟩ => thn (hb pins s1 σ H1 _ I1 q1) fun u s2 ⟨y, H2, I2, r2, q2⟩ =>
    thn (ho pins s2 σ H2 x y v u _ I2 r1 r2 q2) fun c s3 ⟨z, H3, I3, r3, k, e, q3⟩ => ?_) hm
  subst e
  cases r3
  exact wpAny_truthy_bool ⟨H3, I3, q3⟩
/-- a op1 b op2 c -/
def tChain (r r' : R2) (ta tb tc : TE) : TE := fun σ H Q => ta σ H fun x H1 => tb σ H1 fun y H2 => r x y H2 fun z H3 => ∃ k, z = .bl k ∧
  (if k = true then tc σ H3 fun w' H4 => r' y w' H4 Q else Q (.bl false) H3)
theorem pt_chain {op op' : CmpOp} {r r' : R2} (ho : OpR X (compareOp op) r) (ho' : OpR X (compareOp op') r') (ha : PE X a ta) (hb : PE X b tb) (hc : PE X c tc)
    (hm : lastMarks [op, op'] [b, c] = false := by with_unfolding_all rfl) : PT X (.Compare a [op, op'] [b, c] pos) (tTest (tChain r r' ta tb tc)) := by
  intro pins s σ H Q I h
  refine isTrue_chain (thn (ha pins s σ H _ I h) fun v s1 ⟨x, H1, I1, r1, q1⟩ => test_link (thn (hb pins s1 σ H1 _ I1 q1) fun u s2 ⟨y, H2, I2, r2, q2⟩ =>
    thn (ho pins s2 σ H2 x y v u _ I2 r1 r2 q2) fun d s3 ⟨z, H3, I3, r3, k, e, q3⟩ => ?_)) hm
  subst e
  cases r3
  refine wpAny_truthy_bool ?_
  cases k with
  | false =>
    obtain ⟨k', e', q'⟩ := q3
    cases e'
    exact ite_ff ⟨H3, I3, q'⟩
  | true =>
    refine ite_tt (test_last (thn (hc pins s3 σ H3 _ I3 q3) fun w' s4 ⟨z', H4, I4, r4, q4⟩ => thn (ho' pins s4 σ H4 y z' u w' _ I4 r2 r4 q4) fun d' s5 ⟨z2, H5, I5, r5, k2, e2, q5⟩ => ?_))
    subst e2
    cases r5
    exact wpAny_truthy_bool ⟨H5, I5, q5⟩

/-! ### truth -/
theorem line63 : (sizeLine : Nat) < 2 ^ 63 := by rw [sizeLine_eq]; decide
/-! ### strs and bytes -/
/-! ### scalar builtins, by CallR -/
theorem vals1 {x : V} {us : List Value} (r : Vals [x] us) : ∃ u, us = [u] ∧ RelV x u := by
  cases r with
  | cons r1 r2 => cases r2; exact ⟨_, rfl, r1⟩
theorem vals2 {x y : V} {us : List Value} (r : Vals [x, y] us) : ∃ u w', us = [u, w'] ∧ RelV x u ∧ RelV y w' := by
  cases r with
  | cons r1 r2 =>
    cases r2 with
    | cons r3 r4 => cases r4; exact ⟨_, _, rfl, r1, r3⟩
theorem call_max2 (hc : X.calm = true) : CallR X (.builtin "max") (fun xs H Q => ∃ i j, xs = [.int i, .int j] ∧ Q (.int (if j > i then j else i)) H) := by
  intro pins s σ H xs us Q I r h
  obtain ⟨i, j, rfl, q⟩ := h
  obtain ⟨u, w', rfl, ⟨t, rfl⟩, ⟨t', rfl⟩⟩ := vals2 r
  refine max_two_ints (I.ok.hd hc) fun h' tk k => ⟨_, H, I.kept k, ?_, q⟩
  by_cases hj : j > i
  · rw [if_pos hj, if_pos hj]; exact ⟨_, rfl⟩
  · rw [if_neg hj, if_neg hj]; exact ⟨_, rfl⟩
end
end L2

namespace L2
open PySem PySem.Spec PyProof.Rows

/-! ### an instance, its attributes a map -/
structure ObjM (h : Heap) (x dx C : Addr) (mA : Str → Option Value) : Prop where
  obj : h.get? x = some (PySem.W.instObj C dx)
  ns : h.Ns1 dx mA
  ne : dx ≠ x

theorem lookIn_ns {h : Heap} {dx : Addr} {mA : Str → Option Value} (n : h.Ns1 dx mA) : ∃ od, h.get? dx = some od ∧ ∀ name, PySem.W.lookIn name od = some (mA name) := by
  obtain ⟨o, es, ep, ho, hd, hk, _, hm⟩ := n
  refine ⟨o, ho, fun name => ?_⟩
  have e := hm name
  unfold nsFind findBy at e
  rw [← Array.find?_toList] at e
  unfold PySem.W.lookIn
  rw [hd]
  dsimp only
  split
  · rename_i y q
    rw [q] at e
    exact congrArg some e
  · rename_i q
    rw [q] at e
    have a : es.toList.any (·.refKey) = false := by
      rw [List.any_eq_false]
      intro y hy
      obtain ⟨z, t, hkey⟩ := hk y (Array.mem_toList_iff.mp hy)
      simp [DictEntry.refKey, hkey]
    have a' : ¬ es.toList.any (·.refKey) = true := by rw [a]; exact Bool.false_ne_true
    rw [if_neg a']
    exact congrArg some e

theorem ObjM.look {h : Heap} {x dx C : Addr} {mA : Str → Option Value} (I : ObjM h x dx C mA) : ∃ od, PySem.W.InstAt h x (PySem.W.instObj C dx) C (some od) ∧ ∀ name, PySem.W.lookIn name od = some (mA name) :=
  let ⟨od, ho, hl⟩ := lookIn_ns I.ns
  ⟨od, ⟨I.obj, rfl, rfl, ho⟩, hl⟩

section
variable {prog : Program} {w : World} {A : Around} {E : Value → Shared → Prop} {s : Shared} {K : PySem.W.Frag} {x dx C f : Addr} {mA : Str → Option Value} {name : Str} {v : Value}

end

/-! ### the attributes as a list of pairs -/
section
variable {P : Program} {w : World} {H H' : Hp} {h h' : Heap} {a C dx : Addr} {fs fs' : List (Str × V)}
theorem ins_get (hok : HOk P w H h) (e : H a = some (.ins C dx fs)) : ∃ mA, ObjM h a dx C mA ∧ (∀ f, RelO (fs.lookup f) (mA f)) ∧ PySem.Within mA (fs.map (·.1)) ∧ fs.length ≤ 1000 ∧ H dx = some (.own a) := by
  obtain ⟨d, z, ne, ob, mA, n, r, q⟩ := (show ObjOk P w H h a (.ins C dx fs) from hok a _ e)
  exact ⟨mA, ⟨ob, n, ne⟩, r, q, z, d⟩
end

/-! ### what of the text a class must have -/
structure Cls (K : PySem.W.Frag) (C : Addr) : Prop where
  pg : PySem.W.plainGet K C Str.empty = true
  hd : PySem.W.hasDictIn K C = true
  po : PySem.W.plainOver K C = true
  sa : PySem.W.findIn K (.ref C) "__setattr__" = some (some (.builtin "object.__setattr__"))
theorem Cls.get {K : PySem.W.Frag} {C : Addr} (c : Cls K C) (f : Str) : PySem.W.plainGet K C f = true := c.pg
/-- a constant of the class -/
structure Con (K : PySem.W.Frag) (C : Addr) (f : Str) (v : V) (u : Value) : Prop where
  at_ : PySem.W.findIn K (.ref C) f = some (some u)
  rel : RelV v u
  get : PySem.W.specialIn K u "__get__" = some none
  cp : PySem.W.copiedNames.contains f = false
/-- a method: a plain def of the class or of one above it -/
structure Meth (K : PySem.W.Frag) (C : Addr) (m : Str) (f : Addr) : Prop where
  at_ : PySem.W.findIn K (.ref C) m = some (some (.ref f))
  fn : PySem.W.isFn K (.ref f) = true
  kp : PySem.W.keepIn K (.ref f) = true

section
variable {X : Cx} {pins : List (Addr × Obj)} {σ : St} {H : Hp} {s : Shared} {a C dx : Addr} {fs : List (Str × V)} {f : Str} {v : V} {A : Around} {E : Value → Shared → Prop}

/-- a new instance, tracked, without attributes -/
theorem Inv.made (I : Inv X pins σ H s) : Inv X pins σ (upd (upd H s.heap.objs.size (.own (s.heap.objs.size + 1))) (s.heap.objs.size + 1) (.ins C s.heap.objs.size []))
    { s with heap := (s.heap.push PySem.W.emptyDict).push (PySem.W.instObj C s.heap.objs.size) } := by
  have e1 : (s.heap.push PySem.W.emptyDict).get? s.heap.objs.size = some PySem.W.emptyDict := Heap.get?_push_size s.heap rfl
  have e2 : ((s.heap.push PySem.W.emptyDict).push (PySem.W.instObj C s.heap.objs.size)).get? (s.heap.objs.size + 1) = some (PySem.W.instObj C s.heap.objs.size) := by
    have := Heap.get?_push_size (s.heap.push PySem.W.emptyDict) (o := PySem.W.instObj C s.heap.objs.size) rfl
    rwa [Heap.size_push] at this
  have e3 : (s.heap.push PySem.W.emptyDict).Ns s.heap.objs.size (fun _ => none) := ⟨PySem.W.emptyDict, #[], _, e1, rfl, (fun e he => absurd he (by simp)), fun _ => rfl⟩
  have I1 := I.laid (a := s.heap.objs.size) (o := .own (s.heap.objs.size + 1)) (h' := s.heap.push PySem.W.emptyDict) (t' := s.toks) (fun b u q => Heap.get?_push_of_some _ q) (Nat.le_refl _) ⟨_, e1⟩
  refine I1.laid (a := s.heap.objs.size + 1) (o := .ins C s.heap.objs.size []) (t' := s.toks) (fun b u q => Heap.get?_push_of_some _ q) (Nat.le_of_eq (Heap.size_push _ _)) ?_
  have ne : s.heap.objs.size ≠ s.heap.objs.size + 1 := Nat.ne_of_lt (Nat.lt_succ_self _)
  refine ⟨by rw [upd_ne ne, upd_same], Nat.zero_le _, ne, e2, fun _ => none, (Heap.Ns1.of_empty e3).at fun o q => Heap.get?_push_of_some _ q, fun _ => True.intro, fun y hy => absurd rfl hy⟩

end

/-! ### readings and rules -/
section
variable {X : Cx} {o e value : Expr} {f : Str} {pos pos' tpos : Pos} {ta tv : TE}
end

/-! ### isinstance -/
section
variable {X : Cx} {pins : List (Addr × Obj)} {σ : St} {H : Hp} {s : Shared} {A : Around} {E : Value → Shared → Prop} {Q : Value → Shared → Prop} {c : Value} {b : Bool}
/-- the type of a value, as the fragment's deciders take it; for an instance its class -/
inductive TyOf (K : PySem.W.Frag) (H : Hp) : V → Value → Prop where
  | non : TyOf K H .non (.type "NoneType")
  | bl (x : Bool) : TyOf K H (.bl x) (.type "bool")
  | int (i : Int) : TyOf K H (.int i) (.type "int")
  | str (x : Str) : TyOf K H (.str x) (.type "str")
  | flt (x : UInt64) : TyOf K H (.flt x) (.type "float")
  | lst {a : Addr} {xs : List V} (e : H a = some (.lst xs)) : TyOf K H (.ref a) (.type "list")
  | frz {a : Addr} {o : Obj} {xs : List V} (e : H a = some (.frz o (.lst xs))) : TyOf K H (.ref a) (.type "list")
  | tup {a : Addr} {xs : List V} (e : H a = some (.tup xs)) : TyOf K H (.ref a) (.type "tuple")
  | dK {a : Addr} {kvs : List (Key × V)} (e : H a = some (.dK kvs)) : TyOf K H (.ref a) (.type "dict")
  | dT {a : Addr} {kvs : List (List Key × V)} (e : H a = some (.dT kvs)) : TyOf K H (.ref a) (.type "dict")
  | ins {a C dx : Addr} {fs : List (Str × V)} (e : H a = some (.ins C dx fs)) (cl : Cls K C) (ha : PySem.W.findIn K (.ref C) "__class__" = some (some (.builtin "object.__class__")))
      (hn : PySem.W.specialIn K (.builtin "object.__class__") "__get__" = some (some (.builtin "getset_descriptor.__get__"))) (htk : PySem.W.takesIn K (.builtin "object.__class__") = some true)
      (hm : PySem.W.mroIn K C (.type "object") = some true) : TyOf K H (.ref a) (.ref C)
/-- isinstance(x, c) for one class c, a built-in or an own one: kitOne's answer -/
theorem isinst_ok {x : V} {u t : Value} (I : Inv X pins σ H s) (rx : RelV x u) (ty : TyOf X.K H x t) (e : PySem.W.kitOne X.K t c = some b) (h : ∀ tk, Q (.bool b) { s with toks := tk }) :
    wpAny (model X.prog X.w) A (call (.builtin "isinstance") [u, c]) Q E s := by
  cases ty with
  | non => cases (show u = Value.none from rx); exact PySem.W.kia_one PySem.W.kitx_none I.kIn True.intro e (fun z => nomatch z) h
  | bl y => cases (show u = Value.bool y from rx); exact PySem.W.kia_one PySem.W.kitx_bool I.kIn True.intro e (fun z => nomatch z) h
  | int i => obtain ⟨t, q⟩ := (show ∃ t, u = Value.int i t from rx); cases q; exact PySem.W.kia_one PySem.W.kitx_int I.kIn True.intro e (fun z => nomatch z) h
  | str y => obtain ⟨t, q⟩ := (show ∃ t, u = Value.str y t from rx); cases q; exact PySem.W.kia_one PySem.W.kitx_str I.kIn True.intro e (fun z => nomatch z) h
  | flt y => obtain ⟨t, q⟩ := (show ∃ t, u = Value.float y t from rx); cases q; exact PySem.W.kia_one PySem.W.kitx_float I.kIn True.intro e (fun z => nomatch z) h
  | @lst a xs ea =>
    cases (show u = Value.ref a from rx)
    obtain ⟨_, _, n, _, h1⟩ := (show ObjOk X.prog X.w H s.heap a (.lst xs) from I.hok a _ ea)
    exact PySem.W.kia_one PySem.W.kitx_list I.kIn ⟨_, h1, rfl⟩ e (fun z => nomatch z) h
  | @frz a ob xs ea =>
    cases (show u = Value.ref a from rx)
    obtain ⟨_, _, _, n, _, h1⟩ := (show ObjOk X.prog X.w H s.heap a (.frz ob (.lst xs)) from I.hok a _ ea)
    exact PySem.W.kia_one PySem.W.kitx_list I.kIn ⟨_, h1, rfl⟩ e (fun z => nomatch z) h
  | @tup a xs ea =>
    cases (show u = Value.ref a from rx)
    obtain ⟨_, _, _, p⟩ := (show ObjOk X.prog X.w H s.heap a (.tup xs) from I.hok a _ ea)
    obtain ⟨o, h1, h2, _⟩ := p
    exact PySem.W.kia_one PySem.W.kitx_tuple I.kIn ⟨o, h1, h2⟩ e (fun z => nomatch z) h
  | @dK a kvs ea =>
    cases (show u = Value.ref a from rx)
    obtain ⟨_, _, vs, _, p⟩ := (show ObjOk X.prog X.w H s.heap a (.dK kvs) from I.hok a _ ea)
    obtain ⟨o, es, ep, h1, h2, _⟩ := p
    exact PySem.W.kia_one PySem.W.kitx_dict I.kIn ⟨o, h1, h2.1⟩ e (fun z => nomatch z) h
  | @dT a kvs ea =>
    cases (show u = Value.ref a from rx)
    obtain ⟨_, _, xs, _, o, es, ep, h1, h2, _⟩ := (show ObjOk X.prog X.w H s.heap a (.dT kvs) from I.hok a _ ea)
    exact PySem.W.kia_one PySem.W.kitx_dict I.kIn ⟨o, h1, h2.1⟩ e (fun z => nomatch z) h
  | @ins a C dx fs ea cl ha hn htk hm =>
    cases (show u = Value.ref a from rx)
    obtain ⟨mA, O, _⟩ := ins_get I.hok ea
    obtain ⟨od, J, _⟩ := O.look
    exact PySem.W.kia_one (PySem.W.kitx_own (cl.get _) cl.hd ha hn htk hm) I.kIn J e (fun z => nomatch z) h
end
end L2

namespace L2
open PySem PySem.Spec PyProof.Rows

/-! ### room -/
structure Room (k : Nat) (A : Around) : Prop where
  hd : A.handled = none
  dp : A.depth + 3 * k + 5 < recursionLimit
  un : A.units + 16 * k + 200 < cLine
theorem Room.mono {j k : Nat} {A : Around} (r : Room k A) (h : j ≤ k) : Room j A := ⟨r.hd, by have := r.dp; omega, by have := r.un; omega⟩
theorem Room.deeper {k : Nat} {A : Around} (r : Room (k + 1) A) (env : Env) : Room k (A.deeper env) :=
  ⟨r.hd, by have := r.dp; show A.depth + 1 + 3 * k + 5 < _; omega, by have := r.un; show A.units + 3 + 16 * k + 200 < _; omega⟩
theorem Room.in1 {k : Nat} {A : Around} (r : Room (k + 1) A) : Room k A.in1 :=
  ⟨r.hd, by have := r.dp; show A.depth + 3 * k + 5 < _; omega, by have := r.un; show A.units + 1 + 16 * k + 200 < _; omega⟩
theorem Room.depth {k : Nat} {A : Around} (r : Room k A) : A.depth < recursionLimit := by have := r.dp; omega
theorem Room.units {k : Nat} {A : Around} (r : Room k A) : A.units + 64 < cLine := by have := r.un; omega
/-! ### argument lists and displays -/
def tNil : TA := fun _ H Q => Q [] H
def tCons (ta : TE) (tr : TA) : TA := fun σ H Q => ta σ H fun x H1 => tr σ H1 fun xs H2 => Q (x :: xs) H2
section
variable {X : Cx} {e : Expr} {es : List Expr} {te : TE} {t : TA} {pos : Pos}
theorem pa_nil : PA X [] tNil := fun _ _ _ _ H Q I h => Calls.spliced_nil ⟨[], H, I, .nil, h⟩
theorem pa_cons (ha : PE X e te) (hr : PA X es t) (hs : starEach (e :: es) X.env = (false, eval e X.env) :: starEach es X.env := by rfl) : PA X (e :: es) (tCons te t) := by
  intro pos pins s σ H Q I h
  rw [hs]
  show wpAny _ _ (spliced ((false, eval e X.env) :: backTo pos (starEach es X.env))) _ _ s
  refine Calls.spliced_cons (thn (ha pins s σ H _ I h) fun u s1 ⟨x, H1, I1, r1, q1⟩ => ?_)
  exact thn (hr pos pins s1 σ H1 _ I1 q1) fun us s2 ⟨xs, H2, I2, r2, q2⟩ => ⟨x :: xs, H2, I2, .cons r1 r2, q2⟩

def tLst (t : TA) : TE := fun σ H Q => t σ H fun xs H1 => xs.length ≤ sizeLine ∧ ∀ p, H1 p = none → Q (.ref p) (upd H1 p (.lst xs))
theorem pe_lst (h : PA X es t) : PE X (.List es pos) (tLst t) := by
  intro pins s σ H Q I hq
  refine wpAny_List_spliced (thn (h pos pins s σ H _ I hq) fun us s1 ⟨xs, H1, I1, r, z, q⟩ => ⟨by rw [← r.length]; exact z, ?_⟩)
  have hf : H1 s1.heap.objs.size = none := I1.hok.fresh (Nat.le_refl _)
  refine ⟨.ref s1.heap.objs.size, upd H1 s1.heap.objs.size (.lst xs), I1.laid (t' := s1.toks) (fun b u e => Heap.get?_push_of_some _ e) (Nat.le_refl _) ?_, rfl, q _ hf⟩
  exact ⟨z, us, 0, r, Heap.get?_push_size _ rfl⟩
end

/-! ### what a def promises -/
/-- a def's promise: the bound arguments in the parameters' order, the heap, the wanted end, the wanted exception -/
abbrev Sp := List V → Hp → VK → XK → Prop
/-- how an exception lies behind a call (file 08 gives it): the callers' frames, abstract heap and state ahead of the call, the wish, the exception, the state -/
abbrev CXT := List Env → Hp → Shared → XK → Value → Shared → Prop

/-- the state at a call -/
structure Env0 (P : Program) (w : World) (K : PySem.W.Frag) (mg : Str → Option Value) (base : Heap) (A : Around) (outer : List Env) (s : Shared) (H : Hp) : Prop where
  frames : A.frames = some outer
  mod : Mod K mg base
  bs : ∀ b o, base.get? b = some o → s.heap.get? b = some o ∧ H b = none
  bsz : base.objs.size ≤ s.heap.objs.size
  funs : s.heap.FunFrames base outer
  frf : ∀ b ∈ frs outer, H b = none
  hok : HOk P w H s.heap
  bare : AllBare s.gens
/-- a call's end -/
def CE (outer : List Env) (P : Program) (w : World) (H : Hp) (s : Shared) (Q : VK) (u : Value) (s' : Shared) : Prop :=
  ∃ v H', s'.os = s.os ∧ AllBare s'.gens ∧ Un (frs outer) [] H H' s.heap s'.heap ∧ HOk P w H' s'.heap ∧ RelV v u ∧ Q v H'
def CR (CX : CXT) (outer : List Env) (P : Program) (w : World) (H : Hp) (s : Shared) (Q : VK) (E : XK) (r : Result) (s' : Shared) : Prop :=
  match r with
  | .ok (.ret u) => CE outer P w H s Q u s'
  | .ok _ => False
  | .error e => CX outer H s E e s'
structure FnOk (P : Program) (w : World) (K : PySem.W.Frag) (mg : Str → Option Value) (base : Heap) (CX : CXT) (k : Nat) (f : Addr) (fd : FuncData) (ps : List Str) (sp : Sp) : Prop where
  len : ∀ vs H Q E, sp vs H Q E → vs.length = ps.length
  run : ∀ (A : Around) (outer : List Env) (s : Shared) (H : Hp) (args : Args) (us : List Value) (vs : List V) (Q : VK) (E : XK), Room k A → Env0 P w K mg base A outer s H → BindsTo s fd args (ps.zip us) → Vals vs us → sp vs H Q E →
    codeAny (model P w) A (.call (.ref f) args) (CR CX outer P w H s Q E) s
theorem FnOk.mono {P : Program} {w : World} {K : PySem.W.Frag} {mg : Str → Option Value} {base : Heap} {CX : CXT} {j k : Nat} {f : Addr} {fd : FuncData} {ps : List Str} {sp : Sp} (F : FnOk P w K mg base CX j f fd ps sp) (h : j ≤ k) :
    FnOk P w K mg base CX k f fd ps sp := ⟨F.len, fun A outer s H args us vs Q E hr => F.run A outer s H args us vs Q E (hr.mono h)⟩
/-- a weaker promise -/
theorem FnOk.imp {P : Program} {w : World} {K : PySem.W.Frag} {mg : Str → Option Value} {base : Heap} {CX : CXT} {k : Nat} {f : Addr} {fd : FuncData} {ps : List Str} {sp sp' : Sp} (F : FnOk P w K mg base CX k f fd ps sp)
    (h : ∀ vs H Q E, sp' vs H Q E → sp vs H Q E) : FnOk P w K mg base CX k f fd ps sp' :=
  ⟨fun vs H Q E q => F.len vs H Q E (h _ _ _ _ q), fun A outer s H args us vs Q E hr he hb hv hs => F.run A outer s H args us vs Q E hr he hb hv (h _ _ _ _ hs)⟩

theorem Env0.in1 {P : Program} {w : World} {K : PySem.W.Frag} {mg : Str → Option Value} {base : Heap} {A : Around} {outer : List Env} {s : Shared} {H : Hp} (e : Env0 P w K mg base A outer s H) :
    Env0 P w K mg base A.in1 outer s H := ⟨e.frames, e.mod, e.bs, e.bsz, e.funs, e.frf, e.hok, e.bare⟩

section
variable {X : Cx} {pins : List (Addr × Obj)} {σ : St} {H : Hp} {s s' : Shared}
/-- from a body: what a callee wants -/
theorem Inv.env0 (I : Inv X pins σ H s) : Env0 X.prog X.w X.K X.mg X.base X.A X.stack s H :=
  ⟨I.ok.frames, I.ok.mod, I.bs, Nat.le_trans I.ok.bsz I.sz, I.stack, I.stkFree, I.hok, I.bare⟩
/-- behind a call -/
theorem Inv.after {Q : VK} {u : Value} (I : Inv X pins σ H s) (h : CE X.stack X.prog X.w H s Q u s') : EP X pins σ Q u s' := by
  obtain ⟨v, H', os, bare, un, hok, r, q⟩ := h
  obtain ⟨hh, g, d, t, os'⟩ := s'
  obtain rfl : os' = s.os := os
  exact ⟨v, H', I.call (h' := hh) (g' := g) (d' := d) (t' := t) (ch := []) un hok bare (fun b z => absurd z (by simp)), r, q⟩
end

/-! ### calls -/
/-- f(..): the written arguments, then the defaults dvs; E: what is wanted of an exception -/
def tCall (sp : Sp) (dvs : List V) (E : XK) (t : TA) : TE := fun σ H Q => t σ H fun vs H1 => sp (vs ++ dvs) H1 Q E
/-- how the parameters are bound: us the positional arguments, kw the keywords' values by name, ds the defaults that fill up -/
def Binds (K : PySem.W.Frag) (fd : FuncData) (ps : List Str) (ds : List Value) : Prop :=
  ∀ (s : Shared) (us : List Value), K.In s.heap → (us ++ ds).length = ps.length → BindsTo s fd ⟨us, []⟩ (ps.zip (us ++ ds))
/-- every parameter is given -/
theorem Binds.all {K : PySem.W.Frag} {fd : FuncData} {ps : List Str} (h : ∀ us : List Value, us.length = ps.length → bindArgs fd ⟨us, []⟩ = pure (ps.zip us)) : Binds K fd ps [] := fun s us _ hl => by
  rw [List.append_nil] at hl ⊢
  exact .of_eq (h us hl)

/-- an exception of a callee reaches what this body wants of exceptions -/
def Passes (CX : CXT) (X : Cx) (E : XK) : Prop := ∀ (pins : List (Addr × Obj)) (σ : St) (H : Hp) (s : Shared) (e : Value) (s' : Shared), Inv X pins σ H s → CX X.stack H s E e s' → X.xe e s'

section
variable {X : Cx} {CX : CXT} {k : Nat} {f C : Addr} {fd : FuncData} {ps : List Str} {sp : Sp} {dvs : List V} {ds : List Value} {E : XK} {x m : Str} {p pos apos : Pos} {e o : Expr} {es : List Expr} {ta : TE} {t : TA}

/-- the callee runs -/
theorem run_fn {pins : List (Addr × Obj)} {σ : St} {H : Hp} {s : Shared} {Q : VK} {us : List Value} {vs : List V} (F : FnOk X.prog X.w X.K X.mg X.base CX k f fd ps sp) (hr : Room k X.A) (hb : Binds X.K fd ps ds) (hd : Vals dvs ds) (hx : Passes CX X E)
    (I : Inv X pins σ H s) (r : Vals vs us) (h : sp (vs ++ dvs) H Q E) : wpAny (model X.prog X.w) X.A (call (.ref f) us) (EP X pins σ Q) X.xe s := by
  have r2 : Vals (vs ++ dvs) (us ++ ds) := r.append hd
  have hl : (us ++ ds).length = ps.length := by rw [← r2.length]; exact F.len _ _ _ _ h
  refine wpAny_call (codeAny_mono (F.run X.A X.stack s H ⟨us, []⟩ (us ++ ds) (vs ++ dvs) Q E hr I.env0 (hb s us I.kIn hl) r2 h) fun r s' hq => ?_)
  cases r with
  | error e => exact hx pins σ H s e s' I hq
  | ok fl =>
    cases fl with
    | ret u => exact I.after hq
    | next => exact False.elim hq
    | brk => exact False.elim hq
    | cont => exact False.elim hq

theorem pe_call (F : FnOk X.prog X.w X.K X.mg X.base CX k f fd ps sp) (hr : Room k X.A) (hg : Gl X x) (hm : X.mg x = some (.ref f)) (hk : PySem.W.keepIn X.K (.ref f) = true) (hb : Binds X.K fd ps ds) (hd : Vals dvs ds) (hx : Passes CX X E)
    (ha : PA X (e :: es) t) (hdb : (x == ("__debug__" : Str)) = false := by decide) (he : starEach (e :: es) X.env = (false, eval e X.env) :: starEach es X.env := by rfl) (hpl : (backTo pos (starEach es X.env)).any (·.1) = false := by rfl) :
    PE X (.Call (.Name x p) (e :: es) [] pos) (tCall sp dvs E t) := by
  intro pins s σ H Q I h
  refine wpAny_Call_Name_kw (ld_glob I hg hm ?_ hdb)
  refine PySem.W.callWith_K (h₀ := X.base) I.ok.mod.kin hk (thn (ha pos pins s σ H _ I h) fun us s1 ⟨vs, H1, I1, r, q⟩ => ⟨I1.kIn, ?_⟩) he hpl
  exact run_fn F hr hb hd hx I1 r q
/-- what a class must have to be made -/
structure Mk (K : PySem.W.Frag) (C f : Addr) : Prop where
  makes : PySem.W.makesIn K C = true
  init : PySem.W.findIn K (.ref C) "__init__" = some (some (.ref f))
  fn : PySem.W.isFn K (.ref f) = true
  kp : PySem.W.keepIn K (.ref C) = true

end

/-! ### keywords -/
section
variable {X : Cx} {CX : CXT} {k : Nat} {f C : Addr} {fd : FuncData} {ps ks : List Str} {sp : Sp} {E : XK} {x m : Str} {p pos apos kpos : Pos} {e o : Expr} {es : List Expr} {kws : List Keyword} {te ta : TE} {t tk : TA} {nm : Option Str}
/-- how a call with keywords binds: g puts the positional values us and the keywords' values ws (names ks) in the parameters' order, defaults among them -/
structure KBinds (K : PySem.W.Frag) (fd : FuncData) (ps ks : List Str) (g : List Value → List Value → List Value) (gV : List V → List V → List V) : Prop where
  to : ∀ (s : Shared) (us ws : List Value), K.In s.heap → (g us ws).length = ps.length → BindsTo s fd ⟨us, ks.zip ws⟩ (ps.zip (g us ws))
  rel : ∀ {vs : List V} {us : List Value} {zs : List V} {ws : List Value}, Vals vs us → Vals zs ws → Vals (gV vs zs) (g us ws)
variable {g : List Value → List Value → List Value} {gV : List V → List V → List V}
end

/-! ### a def's body keeps its promise -/
/-- names: the parameters first -/
structure FnScope (N P : List Str) (sc : Scope) : Prop where
  kind : sc.kind = .function
  co : sc.isCoroutine = false
  gen : sc.isGenerator = false
  nd : N.Nodup
  pre : N.take P.length = P
  par : ∀ x ∈ P, sc.names.lookup x = some .local ∨ sc.names.lookup x = some .cell
  nofree : ∀ y ∈ sc.names, y.2 ≠ .free

theorem bindL_out {kindOf : Str → Option NameKind} {x : Str} : ∀ {binds : List (Str × Value)} {m : Str → Option Value}, (∀ v, (x, v) ∉ binds) → bindL kindOf binds m x = m x
  | [], _, _ => rfl
  | (n, v) :: r, m, h => by
    unfold bindL
    rw [bindL_out fun w hw => h w (List.mem_cons_of_mem _ hw)]
    split
    · have : x ≠ n := by rintro rfl; exact h v List.mem_cons_self
      simp [this]
    · rfl
theorem bindC_out {kindOf : Str → Option NameKind} {x : Str} : ∀ {binds : List (Str × Value)} {m : Str → Option Value}, (∀ v, (x, v) ∉ binds) → bindC kindOf binds m x = m x
  | [], _, _ => rfl
  | (n, v) :: r, m, h => by
    unfold bindC
    rw [bindC_out fun w hw => h w (List.mem_cons_of_mem _ hw)]
    split
    · rfl
    · have : x ≠ n := by rintro rfl; exact h v List.mem_cons_self
      simp [this]
theorem bindL_get {kindOf : Str → Option NameKind} {x : Str} {v : Value} : ∀ {P : List Str} {vs : List Value} {i : Nat} {m : Str → Option Value}, P.Nodup → P[i]? = some x → vs[i]? = some v → kindOf x = some .local →
    bindL kindOf (P.zip vs) m x = some v
  | [], _, _, _, _, h, _, _ => by simp at h
  | _ :: _, [], _, _, _, _, h, _ => by simp at h
  | p :: P, w :: vs, 0, m, nd, h1, h2, hk => by
    simp at h1 h2; subst h1; subst h2
    show bindL kindOf ((p, w) :: P.zip vs) m p = _
    unfold bindL
    rw [bindL_out fun v hv => (List.nodup_cons.mp nd).1 (List.of_mem_zip hv).1, if_pos hk]
    simp
  | p :: P, w :: vs, i + 1, m, nd, h1, h2, hk => by
    show bindL kindOf ((p, w) :: P.zip vs) m x = _
    unfold bindL
    exact bindL_get (i := i) (List.nodup_cons.mp nd).2 (by simpa using h1) (by simpa using h2) hk
theorem bindC_get {kindOf : Str → Option NameKind} {x : Str} {v : Value} : ∀ {P : List Str} {vs : List Value} {i : Nat} {m : Str → Option Value}, P.Nodup → P[i]? = some x → vs[i]? = some v → kindOf x ≠ some .local →
    bindC kindOf (P.zip vs) m x = some v
  | [], _, _, _, _, h, _, _ => by simp at h
  | _ :: _, [], _, _, _, _, h, _ => by simp at h
  | p :: P, w :: vs, 0, m, nd, h1, h2, hk => by
    simp at h1 h2; subst h1; subst h2
    show bindC kindOf ((p, w) :: P.zip vs) m p = _
    unfold bindC
    rw [bindC_out fun v hv => (List.nodup_cons.mp nd).1 (List.of_mem_zip hv).1, if_neg hk]
    simp
  | p :: P, w :: vs, i + 1, m, nd, h1, h2, hk => by
    show bindC kindOf ((p, w) :: P.zip vs) m x = _
    unfold bindC
    exact bindC_get (i := i) (List.nodup_cons.mp nd).2 (by simpa using h1) (by simpa using h2) hk

/-- the names' values at the entry -/
def start (N : List Str) (vs : List V) : St := vs.map some ++ List.replicate (N.length - vs.length) none

/-- the context of a def's body, at its entry; an exception leaves the frame, then lies as CX says -/
def cxOf (CX : CXT) (P : Program) (w : World) (K : PySem.W.Frag) (mg : Str → Option Value) (base : Heap) (N : List Str) (qual : Str) (scope : Scope) (f : Addr) (cd : Value) (A : Around) (outer : List Env) (s : Shared) (H : Hp) (E : XK) : Cx where
  prog := P
  w := w
  K := K
  mg := mg
  base := base
  A := A.deeper (envOfC qual scope s.heap.objs.size f cd)
  N := N
  s₀ := s
  H₀ := H
  env := envOfC qual scope s.heap.objs.size f cd
  outer := outer
  stack := envOfC qual scope s.heap.objs.size f cd :: outer
  ex := []
  calm := true
  fn := fun _ => true
  pn := []
  xe := fun e s' => wpAny (model P w) (A.deeper (envOfC qual scope s.heap.objs.size f cd)) (leaving (envOfC qual scope s.heap.objs.size f cd) e) (fun _ s'' => CX outer H s E e s'') (fun e' s'' => CX outer H s E e' s'') s'

theorem cell_has {sc : Scope} {n : Nat} {x : Str} (h : sc.names.lookup x = some .cell) : ∃ c, (cellsFrom n sc.names []).lookup x = some c := by
  have q := PySem.W.cellsFrom_some sc.names n [] (.inl h)
  exact Option.isSome_iff_exists.mp q

theorem inv_start {CX : CXT} {P : Program} {w : World} {K : PySem.W.Frag} {mg : Str → Option Value} {base : Heap} {N ps : List Str} {qual : Str} {scope : Scope} {f : Addr} {cd : Value} {A : Around} {outer : List Env} {s s1 : Shared} {H : Hp} {E : XK} {us : List Value} {vs : List V}
    (S : FnScope N ps scope) (hd : A.handled = none) (e0 : Env0 P w K mg base A outer s H) (hl : vs.length = ps.length) (r : Vals vs us)
    (x : InCallC s s.heap.objs.size (bindL (envOfC qual scope s.heap.objs.size f cd).kindOf (ps.zip us) fun _ => none) (cellsFrom (s.heap.objs.size + 1) scope.names []) (bindC (envOfC qual scope s.heap.objs.size f cd).kindOf (ps.zip us) fun _ => none) s1) :
    Inv (cxOf CX P w K mg base N qual scope f cd A outer s H E) [] (start N vs) H s1 := by
  have hpl : ps.length ≤ N.length := by have := congrArg List.length S.pre; rw [List.length_take] at this; omega
  obtain ⟨h1, tk, rfl, hk⟩ := x.done
  have noA : ∀ b : Addr, b ∉ (cxOf CX P w K mg base N qual scope f cd A outer s H E).ex := fun b z => absurd (show b ∈ ([] : List Addr) from z) (by simp)
  refine ⟨⟨e0.mod, S.kind, rfl, rfl, Nat.le_refl _, fun y z c h1 h2 => ?_, fun y hy => ?_, fun y c _ h => ?_, fun _ => hd, Around.frames_deeper e0.frames, .inr ⟨rfl, rfl⟩, fun b z => absurd z (noA b), e0.bs, e0.bsz, fun b _ _ => noA b, fun b z => absurd z (noA b), e0.funs, e0.frf⟩,
    rfl, e0.bare, Un.kept hk, ⟨_, x.toInCall.ns, fun i y v h1 h2 h3 => ?_⟩, fun y c h => ⟨_, x.cell y c h⟩, e0.hok.fresh (Nat.le_refl _), fun y c h => ?_, fun p hp => absurd (show p ∈ ([] : List (Addr × Obj)) from hp) (by simp), e0.hok.kept hk, ?_⟩
  · exact name_of_addr x.apart (PySem.mem_of_lookup h1) (PySem.mem_of_lookup h2)
  · have hy : scope.names.lookup y = some .cell ∨ scope.names.lookup y = some .free := hy
    rcases hy with hy | hy
    · exact cell_has hy
    · exact absurd rfl (S.nofree _ (PySem.mem_of_lookup hy))
  · exact Nat.le_of_lt (x.above y c (PySem.mem_of_lookup h))
  · have hi : i < vs.length := by
      unfold start at h2
      by_cases hi : i < vs.length
      · exact hi
      · rw [List.getElem?_append_right (by simpa using hi)] at h2
        rw [List.getElem?_replicate] at h2
        split at h2 <;> cases h2
    have ha : vs[i]? = some v := by
      unfold start at h2
      rw [List.getElem?_append_left (by simpa using hi), List.getElem?_map] at h2
      cases e : vs[i]? with
      | none => rw [e] at h2; cases h2
      | some a => rw [e] at h2; cases h2; rfl
    obtain ⟨u, hu, rv⟩ := r.get ha
    have hp : ps[i]? = some y := by
      rw [← S.pre, List.getElem?_take_of_lt (by omega)]; exact h1
    have ndP : ps.Nodup := by rw [← S.pre]; exact S.nd.sublist (List.take_sublist _ _)
    refine ⟨u, rv, ?_⟩
    rcases S.par y (List.mem_of_getElem? hp) with k | k
    · exact .inl ⟨k, bindL_get ndP hp hu k⟩
    · obtain ⟨c, e⟩ := cell_has (n := s.heap.objs.size + 1) k
      refine .inr ⟨.inl k, c, e, ?_⟩
      have q := x.cell y c e
      rw [bindC_get ndP hp hu (by show scope.names.lookup y ≠ _; rw [k]; decide)] at q
      exact q
  · exact e0.hok.fresh (Nat.le_of_lt (x.above y c (PySem.mem_of_lookup h)))
  · unfold start
    show _ = N.length
    rw [List.length_append, List.length_map, List.length_replicate]
    omega

/-- THE RULE: a def (or a method) of the text, by its body. The body's reading t is chosen for each entry; it is run at the parameters' values -/
theorem fn_of {CX : CXT} {P : Program} {w : World} {K : PySem.W.Frag} {mg : Str → Option Value} {base : Heap} {k : Nat} {f : Addr} {name qual : Str} {params : Arguments} {body : List Stmt} {scope : Scope} {dV kV doc pm cdv ct oc : Value} {an od : Option Addr}
    {osl : Array (Option Value)} {N ps : List Str} {sp : Sp} (lk : K.lookup f = some ⟨oc, od, .func (PySem.W.fnOf name qual params body scope dV kV doc pm an cdv ct), osl⟩) (hcd : PySem.W.codeIn K cdv qual = true) (S : FnScope N ps scope)
    (len : ∀ vs H Q E, sp vs H Q E → vs.length = ps.length)
    (hbody : ∀ (A : Around) (outer : List Env) (s : Shared) (H : Hp) (vs : List V) (Q : VK) (E : XK), Room k (A.deeper (envOfC qual scope s.heap.objs.size f cdv)) → sp vs H Q E →
      ∃ t, PSs (cxOf CX P w K mg base N qual scope f cdv A outer s H E) body t ∧ t { nx := fun _ H' => Q .non H', rt := Q } (start N vs) H) :
    FnOk P w K mg base CX (k + 1) f (PySem.W.fnOf name qual params body scope dV kV doc pm an cdv ct) ps sp := by
  refine ⟨len, fun A outer s H args us vs Q E hr e0 hb r hsp => ?_⟩
  have hl := len _ _ _ _ hsp
  have KX : K.In s.heap := e0.mod.kin.keeps fun b o e => (e0.bs b o e).1
  have lim : s.heap.NoLimit := e0.mod.nolimit.keeps fun b o e => (e0.bs b o e).1
  have hkind : ∀ y ∈ ps.zip us, scope.names.lookup y.1 = some .local ∨ (scope.names.lookup y.1 = some .cell ∧ ((cellsFrom (s.heap.objs.size + 1) scope.names []).lookup y.1).isSome = true) := fun ⟨n, v⟩ hy => by
    rcases S.par n (List.of_mem_zip hy).1 with q | q
    · exact .inl q
    · exact .inr ⟨q, PySem.W.cellsFrom_some _ _ _ (.inl q)⟩
  refine codeAny_call_function hr.depth (KX _ _ lk) rfl S.co S.gen rfl (PySem.W.codeRec_of KX hcd) (hb _ _ _ _ ?_)
  refine wpAny_newFunctionEnv_cells S.kind hkind fun env he s1 x => ?_
  subst he
  refine ⟨lim.keeps x.toInCall.keep, codeAny_func ?_⟩
  obtain ⟨t, ht, hq⟩ := hbody A outer s H vs Q E (hr.deeper _) hsp
  have I : Inv (cxOf CX P w K mg base N qual scope f cdv A outer s H E) [] (start N vs) H s1 := inv_start S hr.hd e0 hl r x
  refine wpAny_mono (ht [] s1 (start N vs) H _ I hq) (fun fl s' hs => ?_) fun e s' hs => hs
  have fin : ∀ {σ' : St} {H' : Hp} {v : V} {u : Value}, Inv (cxOf CX P w K mg base N qual scope f cdv A outer s H E) [] σ' H' s' → RelV v u → Q v H' → CE outer P w H s Q u s' :=
    fun {σ' H' v u} J rv q => ⟨v, H', J.os, J.bare, J.base, J.hok, rv, q⟩
  cases fl with
  | ret u =>
    obtain ⟨v, σ', H', J, rv, q⟩ := hs
    exact fin J rv q
  | next =>
    obtain ⟨σ', H', J, q⟩ := hs
    exact fin (v := V.non) (u := Value.none) J rfl q
  | brk =>
    obtain ⟨_, _, _, q⟩ := hs
    exact False.elim q
  | cont =>
    obtain ⟨_, _, _, q⟩ := hs
    exact False.elim q
end L2

namespace L2
open PySem PySem.Spec PyProof.Rows
section
variable {X : Cx} {x : Str} {p pos : Pos} {e : Expr} {es : List Expr} {t : TA} {id T : String} {r : List V → Hp → VK → Prop}

def tCB (r : List V → Hp → VK → Prop) (t : TA) : TE := fun σ H Q => t σ H fun vs H1 => r vs H1 Q
/-- f(e, ..), f a built-in function -/
theorem pe_callB (hc : CallR X (.builtin id) r) (hg : Gl X x) (hm : X.mg x = none) (hv : bootBuiltins x = some (.builtin id)) (ha : PA X (e :: es) t) (hn : x ≠ "__name__" := by decide) (hdb : (x == ("__debug__" : Str)) = false := by decide)
    (he : starEach (e :: es) X.env = (false, eval e X.env) :: starEach es X.env := by rfl) (hpl : (backTo pos (starEach es X.env)).any (·.1) = false := by rfl) : PE X (.Call (.Name x p) (e :: es) [] pos) (tCB r t) := by
  intro pins s σ H Q I h
  refine wpAny_Call_Name_kw (ld_blt I hg hm hv ?_ hn hdb)
  exact PyProof.Rows.callWith_builtin1 (thn (ha pos pins s σ H _ I h) fun us s1 ⟨vs, H1, I1, r1, q1⟩ => hc pins s1 σ H1 vs us Q I1 r1 q1) he hpl
/-- T(e, ..), T a built-in type -/
theorem pe_callTy (hc : CallR X (.type T) r) (hg : Gl X x) (hm : X.mg x = none) (hv : bootBuiltins x = some (.type T)) (ha : PA X (e :: es) t) (hn : x ≠ "__name__" := by decide) (hdb : (x == ("__debug__" : Str)) = false := by decide)
    (he : starEach (e :: es) X.env = (false, eval e X.env) :: starEach es X.env := by rfl) (hpl : (backTo pos (starEach es X.env)).any (·.1) = false := by rfl) : PE X (.Call (.Name x p) (e :: es) [] pos) (tCB r t) := by
  intro pins s σ H Q I h
  refine wpAny_Call_Name_kw (ld_blt I hg hm hv ?_ hn hdb)
  exact PyProof.Rows.callWith_type1 (thn (ha pos pins s σ H _ I h) fun us s1 ⟨vs, H1, I1, r1, q1⟩ => hc pins s1 σ H1 vs us Q I1 r1 q1) he hpl
end
end L2

namespace HT
open PySem PyProof.Rows

section
open PySem.SeqAt
open PySem.AutoSeq1 (wpAny_loadPart')
open PySem.MeetsSeq PySem.MeetsSeq2 PySem.MeetsSeq3

end

section
variable {prog : Program} {w : World} {A : Around} {E : Value → Shared → Prop} {s : Shared}

/-! ### t[a:b], not the whole -/
/-- a slice's bound as a place among n (d where it is left out) -/
def sIx (n d : Nat) : Option Int → Nat
  | none => d
  | some v => if v < 0 then (v + (n : Int)).toNat else min v.toNat n
theorem sIx_none (n d : Nat) : sIx n d none = d := rfl
theorem sIx_nat (n d k : Nat) : sIx n d (some (k : Int)) = min k n := by
  show (if (k : Int) < 0 then ((k : Int) + (n : Int)).toNat else min (k : Int).toNat n) = min k n
  rw [if_neg (by omega), Int.toNat_natCast]
end
end HT

namespace L2
open PySem PySem.Spec PyProof.Rows

/-! ### the parts of a slice -/
abbrev TO := St → Hp → (Option Int → Hp → Prop) → Prop
/-- a slice's part (left out, or an int) -/
def PO (X : Cx) (e : Option Expr) (t : TO) : Prop :=
  ∀ (pins : List (Addr × Obj)) (s : Shared) (σ : St) (H : Hp) (Q : Option Int → Hp → Prop), Inv X pins σ H s → t σ H Q →
    wpAny (model X.prog X.w) X.A (evalPart e X.env) (fun u s' => ∃ o H', Inv X pins σ H' s' ∧ IsPart u o ∧ Q o H') X.xe s
def tNoPart : TO := fun _ H Q => Q none H
def tPart (t : TE) : TO := fun σ H Q => t σ H fun x H1 => ∃ i, x = .int i ∧ Q (some i) H1

theorem intsAre_of {ns : List Int} : ∀ {us : List Value}, Vals (ns.map V.int) us → IntsAre us ns := by
  induction ns with
  | nil => intro us r; rw [List.map_nil] at r; cases r; exact .nil
  | cons n ns ih =>
    intro us r
    rw [List.map_cons] at r
    cases r with
    | cons r1 r2 =>
      obtain ⟨t, e⟩ := r1
      subst e
      exact .cons n t (ih r2)

section
variable {X : Cx} {e : Expr} {te : TE} {lo hi : Option Expr} {tl th : TO} {pos p2 : Pos}

theorem po_none : PO X none tNoPart := by
  intro pins s σ H Q I h
  rw [evalPart_none]
  exact wpAny_pure ⟨none, H, I, .none, h⟩
theorem po_some (h : PE X e te) : PO X (some e) (tPart te) := by
  intro pins s σ H Q I hw
  rw [evalPart_some]
  refine thn (h pins s σ H _ I hw) fun u s1 ⟨x, H1, I1, r1, q1⟩ => ?_
  obtain ⟨i, rfl, q⟩ := q1
  obtain ⟨t, rfl⟩ := r1
  exact ⟨some i, H1, I1, .int i t, q⟩

/-- what a slice of a value is, by values: the slice object stands at sl -/
def SlR (X : Cx) (r : V → Option Int → Option Int → Hp → VK → Prop) : Prop :=
  ∀ (pins : List (Addr × Obj)) (s : Shared) (σ : St) (H : Hp) (x : V) (v vl vu : Value) (lo hi : Option Int) (sl : Addr) (Q : VK), Inv X pins σ H s → RelV x v → s.heap.IsSliceOf sl vl vu .none → IsPart vl lo → IsPart vu hi → r x lo hi H Q →
    ∃ T id, typeLookup (.type T) "__getitem__" = pure (some (.builtin id)) ∧ s.TypeIs v T ∧ wpAny (model X.prog X.w) X.A (getItem v (.ref sl)) (EP X pins σ Q) X.xe s
theorem SlR.or {r r' : V → Option Int → Option Int → Hp → VK → Prop} (h : SlR X r) (h' : SlR X r') : SlR X (fun x lo hi H Q => r x lo hi H Q ∨ r' x lo hi H Q) := by
  intro pins s σ H x v vl vu lo hi sl Q I rx hs pl pu q
  rcases q with q | q
  · exact h pins s σ H x v vl vu lo hi sl Q I rx hs pl pu q
  · exact h' pins s σ H x v vl vu lo hi sl Q I rx hs pl pu q
def tSl (r : V → Option Int → Option Int → Hp → VK → Prop) (te : TE) (tl th : TO) : TE := fun σ H Q => te σ H fun x H1 => tl σ H1 fun l H2 => th σ H2 fun u H3 => r x l u H3 Q
/-- a[lo:hi], any a -/
theorem pe_slice {r : V → Option Int → Option Int → Hp → VK → Prop} (hr : SlR X r) (he : PE X e te) (hl : PO X lo tl) (hu : PO X hi th) : PE X (.Subscript e (.Slice lo hi none p2) pos) (tSl r te tl th) := by
  intro pins s σ H Q I h
  refine Subscript_ (thn (he pins s σ H _ I h) fun v s1 ⟨x, H1, I1, r1, q1⟩ => ?_)
  refine wpAny_Slice (thn (hl pins s1 σ H1 _ I1 q1) fun vl s2 ⟨l, H2, I2, pl, q2⟩ => thn (hu pins s2 σ H2 _ I2 q2) fun vu s3 ⟨u, H3, I3, pu, q3⟩ => ?_)
  rw [evalPart_none]
  refine wpAny_pure ?_
  have I4 : Inv X pins σ H3 { s3 with heap := s3.heap.push { cls := .type "slice", data := .fields #[vl, vu, .none] } } := I3.kept (t' := s3.toks) fun b ob q => Heap.get?_push_of_some _ q
  obtain ⟨T, id, hT, ht, hg⟩ := hr pins { s3 with heap := s3.heap.push { cls := .type "slice", data := .fields #[vl, vu, .none] } } σ H3 x v vl vu l u s3.heap.objs.size Q I4 r1 (Heap.IsSliceOf.new ..) pl pu q3
  show wpAny (model X.prog X.w) X.A (subscriptTail e (.Slice lo hi none p2) v (.ref s3.heap.objs.size)) (EP X pins σ Q) X.xe { s3 with heap := s3.heap.push { cls := .type "slice", data := .fields #[vl, vu, .none] } }
  exact tail_any (ops := [.ref s3.heap.objs.size, v]) ht hT hg (by with_unfolding_all rfl)

/-- the items of xs[lo:hi] -/
def cutV (xs : List V) (lo hi : Option Int) : List V := (xs.drop (HT.sIx xs.length 0 lo)).take (HT.sIx xs.length xs.length hi - HT.sIx xs.length 0 lo)
theorem cutV_length (xs : List V) (lo hi : Option Int) : (cutV xs lo hi).length ≤ xs.length := by
  unfold cutV
  rw [List.length_take, List.length_drop]
  omega
/-! ### t < u, t + u -/
end
end L2

namespace L2
open PySem PySem.Spec PyProof.Rows

/-! ### places -/
/-- the place that an index of any sign means -/
def ixN (n : Nat) (i : Int) : Option Nat := if 0 ≤ i then (if i < n then some i.toNat else none) else if -(n : Int) ≤ i then some (i + n).toNat else none
def atI {α : Type} (xs : List α) (i : Int) : Option α := (ixN xs.length i).bind fun j => xs[j]?
theorem ixN_seq {n : Nat} {i : Int} {j : Nat} (h : ixN n i = some j) : seqIndex? i n = some j ∧ j < n ∧ -(n : Int) ≤ i ∧ i < n := by
  unfold ixN at h
  by_cases h0 : 0 ≤ i
  · rw [if_pos h0] at h
    by_cases h1 : i < n
    · rw [if_pos h1] at h
      have e : i.toNat = j := Option.some.inj h
      exact ⟨by rw [seqIndex_of h0 h1, e], by omega, by omega, h1⟩
    · rw [if_neg h1] at h; cases h
  · rw [if_neg h0] at h
    by_cases h1 : -(n : Int) ≤ i
    · rw [if_pos h1] at h
      have e : (i + n).toNat = j := Option.some.inj h
      exact ⟨by rw [seqIndex_neg (by omega) h1, e], by omega, h1, by omega⟩
    · rw [if_neg h1] at h; cases h
theorem atI_get {α : Type} {xs : List α} {i : Int} {v : α} (h : atI xs i = some v) : ∃ j, seqIndex? i xs.length = some j ∧ xs[j]? = some v ∧ j < xs.length ∧ -(xs.length : Int) ≤ i ∧ i < xs.length := by
  unfold atI at h
  cases e : ixN xs.length i with
  | none => rw [e] at h; cases h
  | some j =>
    rw [e] at h
    obtain ⟨h1, h2, h3, h4⟩ := ixN_seq e
    exact ⟨j, h1, h, h2, h3, h4⟩
theorem atI_nat {α : Type} {xs : List α} {j : Nat} {v : α} (h : xs[j]? = some v) : atI xs (j : Int) = some v := by
  have hj : j < xs.length := (List.getElem?_eq_some_iff.mp h).1
  have e : ixN xs.length (j : Int) = some j := by
    unfold ixN
    rw [if_pos (by omega), if_pos (by omega)]; simp
  unfold atI; rw [e]; exact h
theorem atI_last {α : Type} (xs : List α) (v : α) : atI (xs ++ [v]) (-1) = some v := by
  have hl : (xs ++ [v]).length = xs.length + 1 := by simp
  have e : ixN (xs ++ [v]).length (-1) = some xs.length := by
    unfold ixN
    rw [hl, if_neg (by decide), if_pos (by omega)]
    congr 1
    omega
  unfold atI
  rw [e]
  show (xs ++ [v])[xs.length]? = some v
  simp

/-! ### what may be subscripted -/
/-- what stands as an index of a plain subscript -/
def PlainIx (b : Expr) : Prop := ∀ o i, subscripted b false o i = operate [o, i] (getItem o i)
/-- a subscript by values -/
def IxR (X : Cx) (r : R2) : Prop :=
  ∀ (value slice : Expr) (pins : List (Addr × Obj)) (s : Shared) (σ : St) (H : Hp) (x y : V) (v u : Value) (Q : VK), Inv X pins σ H s → RelV x v → RelV y u → r x y H Q →
    subscripted slice false v u = operate [v, u] (getItem v u) → wpAny (model X.prog X.w) X.A (subscriptTail value slice v u) (EP X pins σ Q) X.xe s
/-- a call of a builtin's method by values: the receiver, the arguments -/
def MtR (X : Cx) (id : String) (r : V → List V → Hp → VK → Prop) : Prop :=
  ∀ (pins : List (Addr × Obj)) (s : Shared) (σ : St) (H : Hp) (x : V) (xs : List V) (v : Value) (us : List Value) (Q : VK), Inv X pins σ H s → RelV x v → Vals xs us → r x xs H Q →
    wpAny (model X.prog X.w) X.A (call (.builtin id) (v :: us)) (EP X pins σ Q) X.xe s
section
variable {X : Cx} {a b : Expr} {ta tb : TE} {pos : Pos}
theorem IxR.or {r r' : R2} (h : IxR X r) (h' : IxR X r') : IxR X (fun x y H Q => r x y H Q ∨ r' x y H Q) := by
  intro value slice pins s σ H x y v u Q I rx ry q hs
  rcases q with q | q
  · exact h value slice pins s σ H x y v u Q I rx ry q hs
  · exact h' value slice pins s σ H x y v u Q I rx ry q hs
theorem MtR.or {id : String} {r r' : V → List V → Hp → VK → Prop} (h : MtR X id r) (h' : MtR X id r') : MtR X id (fun x xs H Q => r x xs H Q ∨ r' x xs H Q) := by
  intro pins s σ H x xs v us Q I rx rs q
  rcases q with q | q
  · exact h pins s σ H x xs v us Q I rx rs q
  · exact h' pins s σ H x xs v us Q I rx rs q
/-- a[b] -/
theorem pe_ix {r : R2} (hr : IxR X r) (ha : PE X a ta) (hb : PE X b tb) (hs : PlainIx b) : PE X (.Subscript a b pos) (tOp r ta tb) := by
  intro pins s σ H Q I h
  exact Subscript_ (binT ha hb I h fun v u s2 x y H2 I2 rx ry q => hr a b pins s2 σ H2 x y v u Q I2 rx ry q (hs _ _))

def rIxL (K : PySem.W.Frag) : R2 := fun x y H Q => ∃ p xs i v, x = .ref p ∧ y = .int i ∧ SqL K H p xs ∧ atI xs i = some v ∧ Q v H
theorem ix_list : IxR X (rIxL X.K) := by
  intro value slice pins s σ H x y v u Q I rx ry h hs
  obtain ⟨p, xs, i, z, rfl, rfl, hq, he, q⟩ := h
  cases rx
  obtain ⟨t, rfl⟩ := ry
  obtain ⟨its, r, pl, hz⟩ := I.list hq
  obtain ⟨j, h1, h2, h3, h4, h5⟩ := atI_get he
  obtain ⟨w, ew, rw'⟩ := r.get h2
  have hl := r.length
  have hn := line63
  have fin : EP X pins σ Q w s := ⟨z, H, I, rw', q⟩
  by_cases h0 : 0 ≤ i
  · have hj : i.toNat = j := by
      rw [seqIndex_of h0 h5] at h1
      exact Option.some.inj h1
    exact item_listR pl.isList h0 (by omega) (by rw [hj]; simpa using ew) fin hs
  · have hj : (i + (its.toArray.size : Int)).toNat = j := by
      rw [seqIndex_neg (by omega) h4] at h1
      rw [List.size_toArray, ← hl]
      exact Option.some.inj h1
    exact subscriptTail_builtinR (x := w) pl.isList.typeIs slot_list_getitem.lookup
      (wpAny_getItem_list_neg (Q := fun r s' => r = w ∧ EP X pins σ Q r s') pl.isList (by omega) (by rw [List.size_toArray] <;> omega) (by omega) (by rw [hj]; simpa using ew) ⟨rfl, fin⟩) hs
/-! ### xs[i] = v, any sign -/
theorem Inv.lst {pins : List (Addr × Obj)} {σ : St} {H : Hp} {s : Shared} {p : Addr} {xs : List V} (I : Inv X pins σ H s) (h : H p = some (.lst xs)) :
    ∃ (its : List Value) (n : Nat), Vals xs its ∧ s.heap.get? p = some { cls := .type "list", data := .seq its.toArray n } ∧ xs.length ≤ sizeLine := by
  obtain ⟨z, its, n, r, e⟩ := I.hok p _ h
  exact ⟨its, n, r, e, z⟩
/-! ### slices -/
theorem slice_bounds (lo hi : Option Int) (n : Nat) : (sliceBounds lo hi none n).1 = ((HT.sIx n 0 lo : Nat) : Int) ∧ (sliceBounds lo hi none n).2.1 = ((HT.sIx n n hi : Nat) : Int) ∧ (sliceBounds lo hi none n).2.2 = 1 := by
  refine ⟨?_, ?_, rfl⟩
  · cases lo with
    | none => simp [sliceBounds, HT.sIx]
    | some i =>
      simp only [sliceBounds, HT.sIx, Option.getD_none, show (1 : Int) > 0 by decide, if_true]
      by_cases h : i < 0
      · simp only [h, if_true] <;> omega
      · simp only [h, if_false] <;> omega
  · cases hi with
    | none => simp [sliceBounds, HT.sIx]
    | some i =>
      simp only [sliceBounds, HT.sIx, Option.getD_none, show (1 : Int) > 0 by decide, if_true]
      by_cases h : i < 0
      · simp only [h, if_true] <;> omega
      · simp only [h, if_false] <;> omega
theorem slicePick_cut (its : List Value) (lo hi : Option Int) : slicePick its.toArray lo hi none = ((its.drop (HT.sIx its.length 0 lo)).take (HT.sIx its.length its.length hi - HT.sIx its.length 0 lo)).toArray := by
  obtain ⟨h1, h2, h3⟩ := slice_bounds lo hi its.toArray.size
  unfold slicePick
  rw [h1, h2, h3]
  simp only [sliceRange_one, pick_run, List.size_toArray] <;> rfl
/-- xs[lo:hi] of a list: a new list -/
def rSlL (K : PySem.W.Frag) : V → Option Int → Option Int → Hp → VK → Prop := fun x lo hi H Q => ∃ a xs, x = .ref a ∧ SqL K H a xs ∧ ∀ p, H p = none → Q (.ref p) (upd H p (.lst (cutV xs lo hi)))
theorem sl_list : SlR X (rSlL X.K) := by
  intro pins s σ H x v vl vu lo hi sl Q I rx hs pl pu h
  obtain ⟨a, xs, rfl, hx, q⟩ := h
  cases rx
  obtain ⟨its, r, ht, hz⟩ := I.list hx
  have hlen := r.length
  refine ⟨"list", _, slot_list_getitem.lookup, ht.isList.typeIs, ?_⟩
  refine wpAny_getItem_list_slice ht.isList hs pl pu .none (by simp) ?_ (by rw [List.size_toArray] <;> omega)
  rw [slicePick_cut, ← hlen]
  refine ⟨.ref s.heap.objs.size, _, I.laid (t' := s.toks) (o := .lst (cutV xs lo hi)) (fun b ob q => Heap.get?_push_of_some _ q) (Nat.le_refl _) ?_, rfl, q _ (I.hok.fresh (Nat.le_refl _))⟩
  exact ⟨Nat.le_trans (cutV_length xs lo hi) hz, _, 0, (r.drop (HT.sIx xs.length 0 lo)).take (HT.sIx xs.length xs.length hi - HT.sIx xs.length 0 lo), Heap.get?_push_size _ rfl⟩

/-! ### in, not in: flat items -/
def flatV : V → Bool
  | .non => true
  | .bl _ => true
  | .int _ => true
  | .str _ => true
  | _ => false
/-- == of flat values -/
def eqV : V → V → Bool
  | .non, .non => true
  | .bl a, .bl b => a == b
  | .bl a, .int b => (if a then 1 else 0) == b
  | .int a, .bl b => a == (if b then 1 else 0)
  | .int a, .int b => a == b
  | .str a, .str b => a == b
  | _, _ => false
theorem eqAt_V {A : Around} {s : Shared} {y x : V} {u v : Value} (ry : RelV y u) (rx : RelV x v) (fy : flatV y = true) (fx : flatV x = true) : SeqAt.EqAt A s u v (eqV y x) := by
  cases y with
  | non =>
    cases ry
    cases x with
    | non => cases rx; exact SeqAt.EqAt.same _
    | bl b => cases rx; exact SeqAt.EqAt.none_bool b
    | int b => obtain ⟨t, rfl⟩ := rx; exact SeqAt.EqAt.none_int b t
    | str b => obtain ⟨t, rfl⟩ := rx; exact SeqAt.EqAt.none_str b t
    | _ => exact absurd (show false = true from fx) Bool.false_ne_true
  | bl a =>
    cases ry
    cases x with
    | non => cases rx; exact SeqAt.EqAt.bool_none a
    | bl b => cases rx; exact SeqAt.EqAt.bool_bool a b
    | int b => obtain ⟨t, rfl⟩ := rx; exact SeqAt.EqAt.bool_int a b t
    | str b => obtain ⟨t, rfl⟩ := rx; exact SeqAt.EqAt.bool_str a b t
    | _ => exact absurd (show false = true from fx) Bool.false_ne_true
  | int a =>
    obtain ⟨t', rfl⟩ := ry
    cases x with
    | non => cases rx; exact SeqAt.EqAt.int_none a t'
    | bl b => cases rx; exact SeqAt.EqAt.int_bool a t' b
    | int b => obtain ⟨t, rfl⟩ := rx; exact SeqAt.EqAt.int_int a t' b t
    | str b => obtain ⟨t, rfl⟩ := rx; exact SeqAt.EqAt.int_str a t' b t
    | _ => exact absurd (show false = true from fx) Bool.false_ne_true
  | str a =>
    obtain ⟨t', rfl⟩ := ry
    cases x with
    | non => cases rx; exact SeqAt.EqAt.str_none a t'
    | bl b => cases rx; exact SeqAt.EqAt.str_bool a t' b
    | int b => obtain ⟨t, rfl⟩ := rx; exact SeqAt.EqAt.str_int a t' b t
    | str b => obtain ⟨t, rfl⟩ := rx; exact SeqAt.EqAt.str_str a t' b t
    | _ => exact absurd (show false = true from fx) Bool.false_ne_true
  | _ => exact absurd (show false = true from fy) Bool.false_ne_true
/-! ### len, list(x), tuple(x) of any list or tuple that is read -/
theorem call_len_seq : CallR X (.builtin "len") (fun xs H Q => ∃ p ys, xs = [.ref p] ∧ (SqL X.K H p ys ∨ SqT X.K H p ys) ∧ Q (.int ys.length) H) := by
  intro pins s σ H xs us Q I r h
  obtain ⟨p, ys, rfl, hq, q⟩ := h
  obtain ⟨u, rfl, rx⟩ := vals1 r
  cases rx
  have hn := line63
  rcases hq with hq | hq
  · obtain ⟨its, r', pl, hz⟩ := I.list hq
    have hlen := r'.length
    exact Calls.call_len_list pl.isList (by simp only [List.size_toArray] <;> omega) ⟨.int ys.length, H, I.tok _, ⟨s.toks + 1, by rw [List.size_toArray, hlen]⟩, q⟩
  · obtain ⟨its, r', pl, hz⟩ := I.tuple hq
    have hlen := r'.length
    exact len_tuple pl (by simp only [List.size_toArray] <;> omega) ⟨.int ys.length, H, I.tok _, ⟨s.toks + 1, by rw [List.size_toArray, hlen]⟩, q⟩
theorem CallR.or {f : Value} {r r' : List V → Hp → VK → Prop} (h : CallR X f r) (h' : CallR X f r') : CallR X f (fun xs H Q => r xs H Q ∨ r' xs H Q) := by
  intro pins s σ H xs us Q I rs q
  rcases q with q | q
  · exact h pins s σ H xs us Q I rs q
  · exact h' pins s σ H xs us Q I rs q
/-! ### the call of a builtin's method: o.m(..) -/
/-- the value is of that builtin type -/
def tyV (K : PySem.W.Frag) (T : String) (x : V) (H : Hp) : Prop := match x with
  | .str _ => T = "str"
  | .int _ => T = "int"
  | .ref p => (T = "list" ∧ ∃ xs, SqL K H p xs) ∨ (T = "tuple" ∧ ∃ o, K.lookup p = some o ∧ o.cls = .type "tuple" ∧ o.dict = none) ∨
      (T = "dict" ∧ ((∃ kvs, H p = some (.dK kvs)) ∨ ∃ kvs, H p = some (.dT kvs))) ∨ (T = "set" ∧ ∃ S n, H p = some (.set S n))
  | _ => False
theorem tyV_is {pins : List (Addr × Obj)} {σ : St} {H : Hp} {s : Shared} {T : String} {x : V} {v : Value} (I : Inv X pins σ H s) (r : RelV x v) (ty : tyV X.K T x H) :
    s.TypeIs v T ∧ ∀ a, v = .ref a → ∃ ob, s.heap.get? a = some ob ∧ ob.dict = none := by
  cases x with
  | str z =>
    obtain ⟨t, rfl⟩ := r
    cases (show T = "str" from ty)
    exact ⟨typeIs_str s z t, fun _ e => nomatch e⟩
  | int i =>
    obtain ⟨t, rfl⟩ := r
    cases (show T = "int" from ty)
    exact ⟨typeIs_int s i t, fun _ e => nomatch e⟩
  | ref p =>
    cases r
    rcases ty with ⟨rfl, xs, hq⟩ | ⟨rfl, o, hk, hc, hd⟩ | ⟨rfl, hk⟩ | ⟨rfl, S, n, hk⟩
    · obtain ⟨its, _, pl, _⟩ := I.list hq
      refine ⟨pl.isList.typeIs, fun a e => ?_⟩
      cases e
      obtain ⟨o, n, e, c, hd, _⟩ := pl
      exact ⟨o, e, hd⟩
    · refine ⟨⟨o, I.kIn p o hk, hc⟩, fun a e => ?_⟩
      cases e
      exact ⟨o, I.kIn _ o hk, hd⟩
    · have z : ∃ o, s.heap.get? p = some o ∧ o.ExactDict := by
        rcases hk with ⟨kvs, hk⟩ | ⟨kvs, hk⟩
        · obtain ⟨_, _, _, _, o, _, _, e, ex, _⟩ := I.hok p _ hk
          exact ⟨o, e, ex⟩
        · obtain ⟨_, _, _, _, o, _, _, e, ex, _⟩ := I.hok p _ hk
          exact ⟨o, e, ex⟩
      obtain ⟨o, e, ex⟩ := z
      refine ⟨⟨o, e, ex.1⟩, fun a e2 => ?_⟩
      cases e2
      exact ⟨o, e, ex.2.1⟩
    · obtain ⟨o, _, _, _, e, ex, _⟩ := I.hok p _ hk
      refine ⟨⟨o, e, ex.1⟩, fun a e2 => ?_⟩
      cases e2
      exact ⟨o, e, ex.2.1⟩
  | _ => exact False.elim ty
def tBM (K : PySem.W.Frag) (T : String) (r : V → List V → Hp → VK → Prop) (to : TE) (t : TA) : TE := fun σ H Q => to σ H fun x H1 => tyV K T x H1 ∧ t σ H1 fun xs H2 => r x xs H2 Q
variable {o e : Expr} {es : List Expr} {to : TE} {t : TA} {name : Str} {apos cpos : Pos} {T id : String} {r : V → List V → Hp → VK → Prop}
theorem pe_bm (pa : PlainAttrs T) (slot : Slot T name id) (hty : typeOf (.builtin id) = pure (.type "method_descriptor")) (hm : MtR X id r) (ho : PE X o to) (ha : PA X (e :: es) t)
    (hbase : attributeBase o name X.env (eval o X.env) = eval o X.env := by rfl)
    (hfew : ((backTo cpos (starEach (e :: es) X.env)).all (fun x => !x.1) && (backToKw cpos (keywordEach [] X.env)).all (fun x => x.1.isSome)
      && decide ((e :: es).length + ([] : List Keyword).length + (if ([] : List Keyword).isEmpty then 0 else 1) < 30)) = true := by rfl)
    (hline : (apos.endLine == cpos.line) = true := by rfl) (hs : starEach (e :: es) X.env = (false, eval e X.env) :: starEach es X.env := by rfl) (hplain : (backTo cpos (starEach es X.env)).any (·.1) = false := by rfl) :
    PE X (.Call (.Attribute o name apos) (e :: es) [] cpos) (tBM X.K T r to t) := by
  intro pins s σ H Q I h
  refine wpAny_Call_method_late hbase hfew hline rfl (thn (ho pins s σ H _ I h) fun v s1 ⟨x, H1, I1, r1, ty, q1⟩ => ?_)
  obtain ⟨h1, h2⟩ := tyV_is I1 r1 ty
  refine ⟨T, id, pa, slot, hty, h1, h2, ?_⟩
  have hA := ha cpos pins s1 σ H1 _ I1 q1
  rw [hs] at hA ⊢
  refine Calls.callWith_builtin (by show (false || (backTo cpos (starEach es X.env)).any (·.1)) = false; rw [hplain] <;> rfl) (Calls.evalArgs_plain ?_)
  exact thn hA fun us s2 ⟨vs, H2, I2, r2, q2⟩ => hm pins s2 σ H2 x vs v us Q I2 r1 r2 q2
/- xs.append(e), list.index on a module's tuple .. are MtR facts of 06m -/
end
end L2

namespace L2
open PySem PySem.Spec PyProof.Rows

def MtM (X : Cx) (id : String) (r : V → List V → Hp → VK → Prop) : Prop :=
  ∀ (pins : List (Addr × Obj)) (s : Shared) (σ : St) (H : Hp) (x : V) (xs : List V) (v : Value) (us : List Value) (Q : VK), Inv X pins σ H s → RelV x v → Vals xs us → r x xs H Q →
    wpAny (model X.prog X.w) X.A (call (.builtin id) (v :: us)) (EP X pins σ Q) X.xe s

/-! ### lists of values -/
theorem Vals.one : ∀ {x : V} {us : List Value}, Vals [x] us → ∃ u, us = [u] ∧ RelV x u
  | _, _, .cons r .nil => ⟨_, rfl, r⟩
theorem Vals.two : ∀ {x y : V} {us : List Value}, Vals [x, y] us → ∃ u v, us = [u, v] ∧ RelV x u ∧ RelV y v
  | _, _, _, .cons r (.cons q .nil) => ⟨_, _, rfl, r, q⟩
theorem Vals.zero : ∀ {us : List Value}, Vals [] us → us = []
  | _, .nil => rfl
theorem Vals.dropLast {xs : List V} {us : List Value} (h : Vals xs us) : Vals xs.dropLast us.dropLast := by
  induction h with
  | nil => exact .nil
  | cons r t ih =>
    cases t with
    | nil => exact .nil
    | cons q t' => exact .cons r ih
theorem Vals.eraseIdx : ∀ {xs : List V} {us : List Value} (i : Nat), Vals xs us → Vals (xs.eraseIdx i) (us.eraseIdx i)
  | _, _, _, .nil => .nil
  | _, _, 0, .cons _ t => t
  | _, _, i + 1, .cons r t => .cons r (Vals.eraseIdx i t)
theorem Vals.reverse {xs : List V} {us : List Value} (h : Vals xs us) : Vals xs.reverse us.reverse := by
  induction h with
  | nil => exact .nil
  | cons r t ih => rw [List.reverse_cons, List.reverse_cons]; exact Vals.append ih (.cons r .nil)
section
variable {X : Cx} {pins : List (Addr × Obj)} {σ : St} {H : Hp} {s : Shared} {l b : Addr} {xs ys zs : List V}

/-! ### the two steps: a tracked list is rewritten, a new list is laid -/
theorem Inv.lset {its its' : List Value} {n : Nat} {f : Array Value → Array Value} {t' : Nat} (I : Inv X pins σ H s) (hH : H l = some (.lst xs))
    (e : s.heap.get? l = some { cls := .type "list", data := .seq its.toArray n }) (hf : f its.toArray = its'.toArray) (hv : Vals ys its') (hz : ys.length ≤ sizeLine) :
    Inv X pins σ (upd H l (.lst ys)) { s with heap := s.heap.update l (Obj.mapSeq f), toks := t' } := by
  have q := PySem.IsL.update e f
  rw [hf] at q
  refine I.write (x := l) (e := l) (by rw [hH]; exact trivial) (.inl rfl) (fun b' u hb hu => (Heap.get?_update_other s.heap (Obj.mapSeq f) (Ne.symm hb)).trans hu) ⟨_, q⟩ ?_
  exact ⟨hz, its', _, hv, q⟩
theorem Inv.lnew {its : List Value} {t' : Nat} (I : Inv X pins σ H s) (hv : Vals ys its) (hz : ys.length ≤ sizeLine) :
    Inv X pins σ (upd H s.heap.objs.size (.lst ys)) { s with heap := s.heap.push { cls := .type "list", data := .seq its.toArray }, toks := t' } :=
  I.laid (fun _ _ q => Heap.get?_push_of_some _ q) (Nat.le_refl _) ⟨hz, its, 0, hv, Heap.get?_push_size _ rfl⟩
theorem Inv.fresh (I : Inv X pins σ H s) : H s.heap.objs.size = none := I.hok.fresh (Nat.le_refl _)
theorem Inv.lstM (I : Inv X pins σ H s) (hH : H l = some (.lst xs)) : xs.length ≤ sizeLine ∧ ∃ (its : List Value) (n : Nat), Vals xs its ∧ xs.length = its.length ∧ s.heap.get? l = some { cls := .type "list", data := .seq its.toArray n } := by
  obtain ⟨z, its, n, r, e⟩ := I.hok l _ hH
  exact ⟨z, its, n, r, r.length, e⟩

theorem notLongL {n : Nat} (h : n ≤ sizeLine) : Builtin.List.listTooLong n = false := by
  unfold Builtin.List.listTooLong
  exact decide_eq_false (by omega)
end

section
variable {X : Cx}

/-! ### methods -/
def rAppend : V → List V → Hp → VK → Prop := fun x vs H Q => ∃ l xs y, x = .ref l ∧ vs = [y] ∧ H l = some (.lst xs) ∧ xs.length < sizeLine ∧ Q .non (upd H l (.lst (xs ++ [y])))
theorem mt_append : MtM X "list.append" rAppend := by
  intro pins s σ H x vs v us Q I rx rv h
  obtain ⟨l, xs, y, rfl, rfl, hH, hz, q⟩ := h
  cases rx
  obtain ⟨u, rfl, ru⟩ := rv.one
  obtain ⟨z, its, n, r, hl, e⟩ := I.lstM hH
  refine call_meets F.slot_list_append ⟨_, e, rfl⟩ F.entry_list_append (F.args_list_append_2 _ _) (PySem.list_append l its.toArray n u (by rw [List.size_toArray]; omega)) ⟨e, ?_⟩
  refine ⟨.non, _, I.lset (its' := its ++ [u]) hH e (by simp) (r.append (.cons ru .nil)) ?_, rfl, q⟩
  rw [List.length_append, List.length_singleton]
  omega

def rExtend : V → List V → Hp → VK → Prop := fun x vs H Q => ∃ l b xs zs, x = .ref l ∧ vs = [.ref b] ∧ H l = some (.lst xs) ∧ H b = some (.lst zs) ∧ xs.length + zs.length ≤ sizeLine ∧ Q .non (upd H l (.lst (xs ++ zs)))
theorem mt_extend : MtM X "list.extend" rExtend := by
  intro pins s σ H x vs v us Q I rx rv h
  obtain ⟨l, b, xs, zs, rfl, rfl, hH, hB, hz, q⟩ := h
  cases rx
  obtain ⟨u, rfl, ru⟩ := rv.one
  cases ru
  obtain ⟨z, its, n, r, hl, e⟩ := I.lstM hH
  obtain ⟨z2, its2, n2, r2, hl2, e2⟩ := I.lstM hB
  have hsz : its.toArray.size + its2.toArray.size ≤ sizeLine := by rw [List.size_toArray, List.size_toArray]; omega
  have hlong : ¬ (!its.toArray.isEmpty && Builtin.List.listTooLong (its.toArray.size + its2.toArray.size)) = true := by
    rw [notLongL hsz, Bool.and_false]
    exact Bool.false_ne_true
  refine call_meets F.slot_list_extend ⟨_, e, rfl⟩ F.entry_list_extend (F.args_list_extend_2 _ _)
    (AutoSeq1.list_extend_list_list_0 l its.toArray n b its2.toArray n2 hlong (by rw [List.size_toArray]; omega) (by omega)) ⟨e, e2, ?_⟩
  refine ⟨.non, _, I.lset (its' := its ++ its2) hH e (by simp) (r.append r2) ?_, rfl, q⟩
  rw [List.length_append]
  omega

/-! ### list + list, list += list, list * int -/
def rCat : R2 := fun x y H Q => ∃ l b xs zs, x = .ref l ∧ y = .ref b ∧ H l = some (.lst xs) ∧ H b = some (.lst zs) ∧ xs.length + zs.length ≤ sizeLine ∧ ∀ p, H p = none → Q (.ref p) (upd H p (.lst (xs ++ zs)))
theorem op_cat : OpR X (binaryOp .Add) rCat := by
  intro pins s σ H x y v u Q I rx ry h
  obtain ⟨l, b, xs, zs, rfl, rfl, hH, hB, hz, q⟩ := h
  cases rx
  cases ry
  obtain ⟨z, its, n, r, hl, e⟩ := I.lstM hH
  obtain ⟨z2, its2, n2, r2, hl2, e2⟩ := I.lstM hB
  refine PySem.P.add_list e e2 ?_ (by rw [List.size_toArray, List.size_toArray]; omega)
  have ea : its.toArray ++ its2.toArray = (its ++ its2).toArray := by simp
  rw [ea]
  exact ⟨.ref _, _, I.lnew (t' := s.toks) (r.append r2) (by rw [List.length_append]; omega), rfl, q _ I.fresh⟩
/-! ### del xs[i] -/
end

/-! ### xs[a:b] = ys -/
section
variable {prog : Program} {w : World} {A : Around} {E : Value → Shared → Prop} {s : Shared}
end

section
variable {X : Cx}
end
end L2


namespace L2
open PySem PySem.Spec PyProof.Rows

/-! ### lists of pairs as tables -/
section
variable {κ : Type} [DecidableEq κ]
def valV (kvs : List (κ × V)) (k : κ) : Option V := (kvs.find? fun kv => decide (kv.1 = k)).map (·.2)
/-- in its place, or at the end -/
def putK (kvs : List (κ × V)) (k : κ) (v : V) : List (κ × V) :=
  if (kvs.any fun kv => decide (kv.1 = k)) = true then kvs.map (fun kv => if kv.1 = k then (kv.1, v) else kv) else kvs ++ [(k, v)]
def dropK (kvs : List (κ × V)) (k : κ) : List (κ × V) := kvs.filter fun kv => decide (kv.1 ≠ k)

theorem valV_nil {k : κ} : valV ([] : List (κ × V)) k = none := rfl
theorem valV_pos {p : κ × V} {r : List (κ × V)} {k : κ} (e : p.1 = k) : valV (p :: r) k = some p.2 := by simp [valV, List.find?_cons, e]
theorem valV_neg {p : κ × V} {r : List (κ × V)} {k : κ} (e : ¬ p.1 = k) : valV (p :: r) k = valV r k := by simp [valV, List.find?_cons, e]
theorem valV_any (k : κ) : ∀ kvs : List (κ × V), (kvs.any fun kv => decide (kv.1 = k)) = (valV kvs k).isSome
  | [] => rfl
  | p :: r => by
    rw [List.any_cons]
    by_cases e : p.1 = k
    · simp only [valV_pos e, decide_eq_true e, Bool.true_or, Option.isSome_some]
    · rw [valV_neg e, decide_eq_false e, Bool.false_or]; exact valV_any k r
theorem valV_map (k j : κ) (y : V) : ∀ kvs : List (κ × V), valV (kvs.map fun kv => if kv.1 = k then (kv.1, y) else kv) j = (valV kvs j).map fun x => if j = k then y else x
  | [] => rfl
  | p :: r => by
    have ih := valV_map k j y r
    rw [List.map_cons]
    by_cases h : p.1 = k
    · rw [if_pos h]
      by_cases e : p.1 = j
      · rw [valV_pos (p := (p.1, y)) e, valV_pos e, Option.map_some, if_pos (e.symm.trans h)]
      · rw [valV_neg (p := (p.1, y)) e, valV_neg e, ih]
    · rw [if_neg h]
      by_cases e : p.1 = j
      · rw [valV_pos (p := p) e, valV_pos e, Option.map_some, if_neg (fun z => h (e.trans z))]
      · rw [valV_neg (p := p) e, valV_neg e, ih]
theorem valV_snoc (k j : κ) (y : V) : ∀ kvs : List (κ × V), valV kvs k = none → valV (kvs ++ [(k, y)]) j = if j = k then some y else valV kvs j
  | [], _ => by
    by_cases e : k = j
    · rw [if_pos e.symm]; exact valV_pos (p := (k, y)) e
    · rw [if_neg (fun z => e z.symm)]; exact valV_neg (p := (k, y)) e
  | p :: r, hn => by
    rw [List.cons_append]
    have hk : ¬ p.1 = k := fun z => by rw [valV_pos z] at hn; cases hn
    rw [valV_neg hk] at hn
    have ih := valV_snoc k j y r hn
    by_cases e : p.1 = j
    · rw [valV_pos e, valV_pos e, if_neg (fun z => hk (e.trans z))]
    · rw [valV_neg e, valV_neg e, ih]
theorem valV_put (kvs : List (κ × V)) (k j : κ) (y : V) : valV (putK kvs k y) j = if j = k then some y else valV kvs j := by
  unfold putK
  by_cases a : (kvs.any fun kv => decide (kv.1 = k)) = true
  · rw [if_pos a, valV_map]
    rw [valV_any] at a
    by_cases e : j = k
    · obtain ⟨x, hx⟩ := Option.isSome_iff_exists.mp a
      rw [if_pos e, e, hx, Option.map_some, if_pos rfl]
    · rw [if_neg e]
      cases valV kvs j with
      | none => rfl
      | some x => rw [Option.map_some, if_neg e]
  · rw [if_neg a]
    refine valV_snoc k j y kvs ?_
    rw [valV_any] at a
    cases q : valV kvs k with
    | none => rfl
    | some x => rw [q] at a; exact (a rfl).elim
theorem length_putK (kvs : List (κ × V)) (k : κ) (v : V) : (putK kvs k v).length ≤ kvs.length + 1 := by
  unfold putK
  split
  · rw [List.length_map]; omega
  · rw [List.length_append, List.length_cons, List.length_nil]; omega
theorem RelO.isSome_eq {o : Option V} {u : Option Value} (r : RelO o u) : o.isSome = u.isSome := by
  cases o with
  | none => cases u with
    | none => rfl
    | some _ => exact (show False from r).elim
  | some _ => cases u with
    | none => exact (show False from r).elim
    | some _ => rfl
theorem RelO.getD {o : Option V} {u : Option Value} {d : V} {d' : Value} (r : RelO o u) (rd : RelV d d') : RelV (o.getD d) (u.getD d') := by
  cases o with
  | none => cases u with
    | none => exact rd
    | some _ => exact (show False from r).elim
  | some _ => cases u with
    | none => exact (show False from r).elim
    | some _ => exact r

/-- raw tables of the same keys -/
theorem KV.val {kvs : List (κ × V)} {vs : List (κ × Value)} (r : KV kvs vs) (k : κ) : RelO (valV kvs k) (valueAt vs k) := by
  unfold KV at r
  induction r with
  | nil => exact True.intro
  | @cons p q ps qs h t ih =>
    obtain ⟨h1, h2⟩ := h
    by_cases e : p.1 = k
    · have e' : q.1 = k := h1.symm.trans e
      have b : valueAt (q :: qs) k = some q.2 := by simp [valueAt, List.find?_cons, e']
      rw [valV_pos e, b]; exact h2
    · have e' : ¬ q.1 = k := fun z => e (h1.trans z)
      have b : valueAt (q :: qs) k = valueAt qs k := by simp [valueAt, List.find?_cons, e']
      rw [valV_neg e, b]; exact ih
theorem KV.any {kvs : List (κ × V)} {vs : List (κ × Value)} (r : KV kvs vs) (k : κ) : (kvs.any fun kv => decide (kv.1 = k)) = vs.any fun kv => decide (kv.1 = k) := by
  unfold KV at r
  induction r with
  | nil => rfl
  | cons h t ih => rw [List.any_cons, List.any_cons, ih, h.1]
theorem KV.repl {kvs : List (κ × V)} {vs : List (κ × Value)} (r : KV kvs vs) (k : κ) {y : V} {u : Value} (ry : RelV y u) :
    KV (kvs.map fun kv => if kv.1 = k then (kv.1, y) else kv) (vs.map fun kv => if kv.1 = k then (kv.1, u) else kv) := by
  unfold KV at r ⊢
  induction r with
  | nil => exact .nil
  | @cons p q ps qs h t ih =>
    rw [List.map_cons, List.map_cons]
    refine .cons ?_ ih
    obtain ⟨h1, h2⟩ := h
    by_cases e : p.1 = k
    · rw [if_pos e, if_pos (h1.symm.trans e)]; exact ⟨h1, ry⟩
    · rw [if_neg e, if_neg (fun z => e (h1.trans z))]; exact ⟨h1, h2⟩
theorem KV.put {kvs : List (κ × V)} {vs : List (κ × Value)} (r : KV kvs vs) (k : κ) {y : V} {u : Value} (ry : RelV y u) : KV (putK kvs k y) (stored vs k u) := by
  unfold putK stored
  rw [r.any k]
  by_cases e : (vs.any fun kv => decide (kv.1 = k)) = true
  · rw [if_pos e, if_pos e]; exact r.repl k ry
  · rw [if_neg e, if_neg e]; exact Paired.snoc r ⟨rfl, ry⟩
theorem KV.drop {kvs : List (κ × V)} {vs : List (κ × Value)} (r : KV kvs vs) (k : κ) : KV (dropK kvs k) (without vs k) := by
  unfold KV at r ⊢
  unfold dropK without
  induction r with
  | nil => exact .nil
  | @cons p q ps qs h t ih =>
    obtain ⟨h1, h2⟩ := h
    rw [List.filter_cons, List.filter_cons]
    by_cases e : p.1 = k
    · have a : ¬ decide (p.1 ≠ k) = true := by simp [e]
      have b : ¬ decide (q.1 ≠ k) = true := by simp [h1.symm.trans e]
      rw [if_neg a, if_neg b]; exact ih
    · have e' : ¬ q.1 = k := fun z => e (h1.trans z)
      have a : decide (p.1 ≠ k) = true := by simp [e]
      have b : decide (q.1 ≠ k) = true := by simp [e']
      rw [if_pos a, if_pos b]; exact .cons ⟨h1, h2⟩ ih
theorem KV.keys {kvs : List (κ × V)} {vs : List (κ × Value)} (r : KV kvs vs) : kvs.map (·.1) = vs.map (·.1) := by
  unfold KV at r
  induction r with
  | nil => rfl
  | cons h t ih => rw [List.map_cons, List.map_cons, ih, h.1]
theorem KV.length {kvs : List (κ × V)} {vs : List (κ × Value)} (r : KV kvs vs) : kvs.length = vs.length := Paired.length r
end


/-! ### a tracked dict, its keys ints and texts or tuples of these -/
theorem kV_is {P : Program} {w : World} {k : Key} {u : Value} (r : RelV (kV k) u) : (mixKind P w).is k u = true := by
  cases k with
  | inl i => obtain ⟨t, e⟩ := (show ∃ t, u = Value.int i t from r); subst e; exact mixKind_int P w i t
  | inr x => obtain ⟨t, e⟩ := (show ∃ t, u = Value.str x t from r); subst e; exact mixKind_str P w x t
theorem items_are {P : Program} {w : World} : ∀ {ks : List Key} {us : List Value}, Vals (ks.map kV) us → ItemsAre (mixKind P w) ks us
  | [], _, r => by rw [List.map_nil] at r; cases r; exact .nil
  | k :: ks, _, r => by
    rw [List.map_cons] at r
    cases r with
    | cons h t => exact .cons (kV_is h) (items_are t)

/-- raw entries of a dict with tuple keys -/
abbrev KT (H : Hp) : List (List Key × V) → List (List Key × Addr × Value) → Prop := Paired fun p q => p.1 = q.1 ∧ H q.2.1 = some (.tup (p.1.map kV)) ∧ RelV p.2 q.2.2
theorem KT.val {H : Hp} {kvs : List (List Key × V)} {xs : List (List Key × Addr × Value)} (r : KT H kvs xs) (k : List Key) : RelO (valV kvs k) ((atKey xs k).map (·.2)) := by
  induction r with
  | nil => exact True.intro
  | @cons p q ps qs h t ih =>
    obtain ⟨h1, _, h2⟩ := h
    by_cases e : p.1 = k
    · have e' : q.1 = k := h1.symm.trans e
      have b : atKey (q :: qs) k = some q.2 := by simp [atKey, List.find?_cons, e']
      rw [valV_pos e, b]; exact h2
    · have e' : ¬ q.1 = k := fun z => e (h1.trans z)
      have b : atKey (q :: qs) k = atKey qs k := by simp [atKey, List.find?_cons, e']
      rw [valV_neg e, b]; exact ih
theorem KT.repl {H : Hp} {kvs : List (List Key × V)} {xs : List (List Key × Addr × Value)} (r : KT H kvs xs) (k : List Key) {y : V} {u : Value} (ry : RelV y u) :
    KT H (kvs.map fun kv => if kv.1 = k then (kv.1, y) else kv) (xs.map (putAt k u)) := by
  induction r with
  | nil => exact .nil
  | @cons p q ps qs h t ih =>
    rw [List.map_cons, List.map_cons]
    refine .cons ?_ ih
    obtain ⟨h1, h2, h3⟩ := h
    unfold putAt
    by_cases e : p.1 = k
    · rw [if_pos e, if_pos (h1.symm.trans e)]; exact ⟨h1, h2, ry⟩
    · rw [if_neg e, if_neg (fun z => e (h1.trans z))]; exact ⟨h1, h2, h3⟩
theorem KT.put {H : Hp} {kvs : List (List Key × V)} {xs : List (List Key × Addr × Value)} (r : KT H kvs xs) (k : List Key) {b : Addr} {y : V} {u : Value} (hb : H b = some (.tup (k.map kV))) (ry : RelV y u) :
    KT H (putK kvs k y) (storedH xs k b u) := by
  have e : (kvs.any fun kv => decide (kv.1 = k)) = (atKey xs k).isSome := by
    rw [valV_any, (r.val k).isSome_eq, Option.isSome_map]
  unfold putK storedH
  rw [e]
  by_cases q : (atKey xs k).isSome = true
  · rw [if_pos q, if_pos q]; exact r.repl k ry
  · rw [if_neg q, if_neg q]; exact Paired.snoc r ⟨rfl, hb, ry⟩
theorem KT.keeps {H H' : Hp} {kvs : List (List Key × V)} {xs : List (List Key × Addr × Value)} (r : KT H kvs xs) (ht : ∀ b ys, H b = some (.tup ys) → H' b = some (.tup ys)) : KT H' kvs xs :=
  Paired.mapP r fun _ _ z => ⟨z.1, ht _ _ z.2.1, z.2.2⟩

section
variable {P : Program} {w : World} {H : Hp} {h : Heap} {a : Addr}
theorem rd_of {u : HO} (ok : HOk P w H h) (e : Rd H a u) : ObjOk P w H h a u := e.ok ok
theorem dk_rd {kvs : List (Key × V)} (ok : HOk P w H h) (e : Rd H a (.dK kvs)) : kvs.length ≤ sizeLine ∧ (a == sysModules) = false ∧ ∃ vs, KV kvs vs ∧ h.DictOf (mixKind P w) a vs :=
  show ObjOk P w H h a (.dK kvs) from rd_of ok e
theorem dk_of {kvs : List (Key × V)} (ok : HOk P w H h) (e : H a = some (.dK kvs)) : kvs.length ≤ sizeLine ∧ (a == sysModules) = false ∧ ∃ vs, KV kvs vs ∧ h.DictOf (mixKind P w) a vs := dk_rd ok (.inl e)
/-- a tracked tuple of ints and texts is a key -/
theorem key_of {ks : List Key} (ok : HOk P w H h) (e : H a = some (.tup (ks.map kV))) : (tupleKind (mixKind P w)).is h ks a := by
  obtain ⟨_, its, r, o, h1, h2, n, h3⟩ := (show ObjOk P w H h a (.tup (ks.map kV)) from ok a _ e)
  exact ⟨o, its.toArray, n, h1, h2, h3, by simpa using items_are r⟩
theorem dt_rd {kvs : List (List Key × V)} (ok : HOk P w H h) (e : Rd H a (.dT kvs)) : kvs.length ≤ sizeLine ∧ (a == sysModules) = false ∧
    ∃ xs, KT H kvs xs ∧ h.DictOfH (tupleKind (mixKind P w)) a xs := by
  obtain ⟨z, y, xs, r, o, es, ep, h1, h2, h3, h4, h5⟩ := (show ObjOk P w H h a (.dT kvs) from rd_of ok e)
  refine ⟨z, y, xs, r, o, es, ep, h1, h2, h3, h4, fun x hx => ?_, h5⟩
  have all : ∀ {l : List (List Key × V)} {m : List (List Key × Addr × Value)}, KT H l m → ∀ x ∈ m, (tupleKind (mixKind P w)).is h x.1 x.2.1 := by
    intro l m q
    induction q with
    | nil => intro x hx; exact nomatch hx
    | @cons p q ps qs hq t ih =>
      intro x hx
      rcases List.mem_cons.mp hx with e | hx
      · subst e
        exact key_of ok (by rw [← hq.1]; exact hq.2.1)
      · exact ih x hx
  exact all r x hx
theorem dt_of {kvs : List (List Key × V)} (ok : HOk P w H h) (e : H a = some (.dT kvs)) : kvs.length ≤ sizeLine ∧ (a == sysModules) = false ∧
    ∃ xs, KT H kvs xs ∧ h.DictOfH (tupleKind (mixKind P w)) a xs := dt_rd ok (.inl e)
end

/-- what the dict at a holds at the key y -/
def DGet (H : Hp) (a : Addr) (y : V) (r : Option V) : Prop :=
  (∃ kvs k, Rd H a (.dK kvs) ∧ y = kV k ∧ r = valV kvs k) ∨ ∃ kvs k b, Rd H a (.dT kvs) ∧ y = .ref b ∧ H b = some (.tup (k.map kV)) ∧ r = valV kvs k
/-- the heap behind a[y] = v -/
def DPut (H : Hp) (a : Addr) (y v : V) (H' : Hp) : Prop :=
  (∃ kvs k, H a = some (.dK kvs) ∧ y = kV k ∧ kvs.length < sizeLine ∧ H' = upd H a (.dK (putK kvs k v))) ∨
  ∃ kvs k b, H a = some (.dT kvs) ∧ y = .ref b ∧ H b = some (.tup (k.map kV)) ∧ kvs.length < sizeLine ∧ H' = upd H a (.dT (putK kvs k v))
theorem DGet.k {H : Hp} {a : Addr} {kvs : List (Key × V)} {k : Key} (e : H a = some (.dK kvs)) : DGet H a (kV k) (valV kvs k) := .inl ⟨kvs, k, .inl e, rfl, rfl⟩
theorem DGet.t {H : Hp} {a b : Addr} {kvs : List (List Key × V)} {k : List Key} (e : H a = some (.dT kvs)) (eb : H b = some (.tup (k.map kV))) : DGet H a (.ref b) (valV kvs k) := .inr ⟨kvs, k, b, .inl e, rfl, eb, rfl⟩
theorem DPut.k {H : Hp} {a : Addr} {kvs : List (Key × V)} {k : Key} {v : V} (e : H a = some (.dK kvs)) (hl : kvs.length < sizeLine) : DPut H a (kV k) v (upd H a (.dK (putK kvs k v))) := .inl ⟨kvs, k, e, rfl, hl, rfl⟩
theorem DPut.t {H : Hp} {a b : Addr} {kvs : List (List Key × V)} {k : List Key} {v : V} (e : H a = some (.dT kvs)) (eb : H b = some (.tup (k.map kV))) (hl : kvs.length < sizeLine) :
    DPut H a (.ref b) v (upd H a (.dT (putK kvs k v))) := .inr ⟨kvs, k, b, e, rfl, eb, hl, rfl⟩


section
variable {X : Cx} {pins : List (Addr × Obj)} {σ : St} {H : Hp} {s : Shared} {a : Addr} {y v : V} {u r : Value} {o : Option V} {A : Around} {E : Value → Shared → Prop}

theorem Inv.big (I : Inv X pins σ H s) : sysModules < s.heap.objs.size := by
  have h : mainGlobals < s.heap.objs.size := (I.mod.glob.keeps I.bk).lt
  exact Nat.lt_trans (by decide) h

/-- y in d -/
theorem d_in {Q : Value → Shared → Prop} (hu : A.units + 1 < cLine) (I : Inv X pins σ H s) (g : DGet H a y o) (ry : RelV y u) (h : ∀ s', Inv X pins σ H s' → Q (.bool o.isSome) s') :
    wpAny (model X.prog X.w) A (compareOp .In u (.ref a)) Q E s := by
  rcases g with ⟨kvs, k, e, ey, l⟩ | ⟨kvs, k, b, e, ey, eb, l⟩
  · subst ey
    obtain ⟨z, hd, vs, rel, dd⟩ := dk_rd I.hok e
    refine wpAny_in_of (kV_is ry) hd dd.mapOf ?_
    rw [← (rel.val k).isSome_eq, ← l]
    exact h _ (I.tok _)
  · subst ey
    cases (show u = Value.ref b from ry)
    obtain ⟨z, hd, xs, rel, dd⟩ := dt_rd I.hok e
    refine wpAny_in_heap (tupleKind_room_in1 hu) (key_of I.hok eb) hd dd ?_
    have q := (rel.val k).isSome_eq
    rw [Option.isSome_map] at q
    rw [← q, ← l]
    exact h _ (I.tok _)
/-- a dict's object is replaced -/
theorem d_write {h' : Heap} {t' : Nat} {ob : HO} (I : Inv X pins σ H s) (mu : Mut (H a)) (hs : Heap.SameBut a s.heap h') (he : ∃ q, h'.get? a = some q) (new : ObjOk X.prog X.w (upd H a ob) h' a ob) :
    Inv X pins σ (upd H a ob) { s with heap := h', toks := t' } :=
  I.write (x := a) (e := a) mu (.inl rfl) (fun b q hb z => (hs.2 b hb).trans z) he new
theorem dk_new {P : Program} {w : World} {H' : Hp} {h' : Heap} {kvs : List (Key × V)} {vs : List (Key × Value)} (z : kvs.length ≤ sizeLine) (hd : (a == sysModules) = false) (rel : KV kvs vs) (dd : h'.DictOf (mixKind P w) a vs) :
    ObjOk P w H' h' a (.dK kvs) := ⟨z, hd, vs, rel, dd⟩
/-- d[y] = v -/
theorem d_setItem {H' : Hp} {Q : Unit → Shared → Prop} (hu : A.units + 1 < cLine) (I : Inv X pins σ H s) (g : DPut H a y v H') (ry : RelV y u) (rv : RelV v r) (h : ∀ s', Inv X pins σ H' s' → Q () s') :
    wpAny (model X.prog X.w) A (setItem (.ref a) u r) Q E s := by
  rcases g with ⟨kvs, k, e, ey, l, eH⟩ | ⟨kvs, k, b, e, ey, eb, l, eH⟩
  · subst ey eH
    obtain ⟨z, hd, vs, rel, dd⟩ := dk_of I.hok e
    have hz : vs.length ≤ sizeLine := by rw [← rel.length]; exact z
    have hl : (putK kvs k v).length ≤ sizeLine := by have := length_putK kvs k v; omega
    refine wpAny_setItem_pairs (hsz := hz) (kV_is ry) dd fun h' dd' hs => h _ ?_
    have he : ∃ q, h'.get? a = some q := let ⟨q, _, _, hq, _⟩ := dd'; ⟨q, hq⟩
    exact d_write I (by rw [e]; exact True.intro) hs he (dk_new hl hd (rel.put k rv) dd')
  · subst ey eH
    cases (show u = Value.ref b from ry)
    obtain ⟨z, hd, xs, rel, dd⟩ := dt_of I.hok e
    have hz : xs.length ≤ sizeLine := by rw [← Paired.length rel]; exact z
    have hl : (putK kvs k v).length ≤ sizeLine := by have := length_putK kvs k v; omega
    refine wpAny_setItem_heap (hsz := hz) (tupleKind_room_in1 hu) (key_of I.hok eb) dd fun h' dd' hs => h _ ?_
    obtain ⟨q, es, ep, hq, h2, h3, h4, _, h5⟩ := dd'
    refine d_write I (by rw [e]; exact True.intro) hs ⟨q, hq⟩ ⟨hl, hd, _, (rel.put k eb rv).keeps fun c ys ec => ?_, q, es, ep, hq, h2, h3, h4, h5⟩
    rw [upd_ne (ne_of ec e (fun z => nomatch z))]
    exact ec
end

section
variable {X : Cx} {pins : List (Addr × Obj)} {σ : St} {H : Hp} {s : Shared} {a : Addr} {kvs : List (Key × V)} {k : Key} {u : Value} {A : Around} {E : Value → Shared → Prop}
end


/-! ### readings and rules -/
/-- y in d, y not in d -/
def tDIn (ty td : TE) : TE := fun σ H Q => ty σ H fun y H1 => td σ H1 fun x H2 => ∃ a o, x = .ref a ∧ DGet H2 a y o ∧ Q (.bl o.isSome) H2
/-- d[y] = v -/
def sDPut (td ty tv : TE) : TS := fun D σ H => tv σ H fun v H1 => td σ H1 fun x H2 => ty σ H2 fun y H3 => ∃ a H4, x = .ref a ∧ DPut H3 a y v H4 ∧ D.nx σ H4
section
variable {X : Cx} {o i e value : Expr} {pos pos' tpos : Pos} {td ty tv : TE}
theorem pc_din (hu : X.A.units + 1 < cLine) (hi : PE X i ty) (ho : PE X o td) : PC X .In i o (tDIn ty td) := by
  intro pins s σ H Q I h
  refine thn (hi pins s σ H _ I h) fun iv s1 ⟨y, H1, I1, ry, q1⟩ => thn (ho pins s1 σ H1 _ I1 q1) fun u s2 ⟨x, H2, I2, rx, a, ov, ex, g, q2⟩ => ?_
  subst ex
  obtain rfl : u = Value.ref a := rx
  exact d_in hu I2 g ry fun s3 I3 => ⟨.bl ov.isSome, H2, I3, rfl, q2⟩
theorem ps_dput (hu : X.A.units + 1 < cLine) (ho : PE X o td) (hi : PE X i ty) (hv : PE X value tv) (hs : swapsWith value (some (.Subscript o i pos')) pos.line X.env = pure false) :
    PS X (.Assign [.Subscript o i pos'] value pos) (sDPut td ty tv) := by
  intro pins s σ H D I h
  refine wpAny_Assign_Subscript (thn (hv pins s σ H _ I h) fun r s1 ⟨v, H1, I1, rv, q1⟩ => thn (ho pins s1 σ H1 _ I1 q1) fun u s2 ⟨x, H2, I2, rx, q2⟩ => thn (hi pins s2 σ H2 _ I2 q2) fun iv s3 ⟨y, H3, I3, ry, a, H4, ex, g, q3⟩ => ?_) hs
  subst ex
  obtain rfl : u = Value.ref a := rx
  exact d_setItem hu I3 g ry rv fun s4 I4 => ⟨σ, H4, I4, q3⟩
end


/-! ### displays -/
theorem dk_empty {P : Program} {w : World} {H : Hp} (h : Heap) (hb : sysModules < h.objs.size) : ObjOk P w H (h.push { cls := .type "dict", data := .dict #[] }) h.objs.size (.dK []) :=
  ⟨Nat.zero_le _, beq_eq_false_iff_ne.mpr (Ne.symm (Nat.ne_of_lt hb)), [], .nil, Heap.DictOf.new h⟩
/-- {}, to be a dict of the kind that is wanted -/
def tDNewK : TE := fun _ H Q => ∀ p, H p = none → Q (.ref p) (upd H p (.dK []))
section
variable {X : Cx} {pos : Pos}
theorem pe_dnewK : PE X (.Dict [] [] pos) tDNewK := fun pins s σ H Q I h =>
  wpAny_Dict_empty ⟨.ref s.heap.objs.size, _, I.laid (a := s.heap.objs.size) (o := .dK []) (t' := s.toks) (fun _ _ q => Heap.get?_push_of_some _ q) (Nat.le_refl _) (dk_empty s.heap I.big), rfl, h _ (I.hok.fresh (Nat.le_refl _))⟩
end

/-- the pairs of a display, from the left -/
def tPairs : List (TE × TE) → St → Hp → (List (V × V) → Hp → Prop) → Prop
  | [], _, H, Q => Q [] H
  | (tk, tv) :: r, σ, H, Q => tk σ H fun x H1 => tv σ H1 fun y H2 => tPairs r σ H2 fun ps H3 => Q ((x, y) :: ps) H3
abbrev VV : List (V × V) → List (Value × Value) → Prop := Paired fun p q => RelV p.1 q.1 ∧ RelV p.2 q.2
def PPs (X : Cx) (pos : Pos) (keys : List (Option Expr)) (values : List Expr) (trs : List (TE × TE)) : Prop :=
  ∀ (pins : List (Addr × Obj)) (s : Shared) (σ : St) (H : Hp) (Q : List (V × V) → Hp → Prop), Inv X pins σ H s → tPairs trs σ H Q →
    wpAny (model X.prog X.w) X.A (evalPairs (pairTrees keys values X.env pos)) (fun vs s' => ∃ ps H', Inv X pins σ H' s' ∧ VV ps vs ∧ Q ps H') X.xe s
theorem pps_nil {X : Cx} {pos : Pos} : PPs X pos [] [] [] := fun pins s σ H Q I h => pairTrees_nil_walk ⟨[], H, I, .nil, h⟩
theorem pps_cons {X : Cx} {pos : Pos} {k v : Expr} {ks : List (Option Expr)} {vs : List Expr} {tk tv : TE} {trs : List (TE × TE)} (hk : PE X k tk) (hv : PE X v tv) (hr : PPs X pos ks vs trs) :
    PPs X pos (some k :: ks) (v :: vs) ((tk, tv) :: trs) := fun pins s σ H Q I h =>
  pairTrees_cons_walk (thn (hk pins s σ H _ I h) fun u s1 ⟨x, H1, I1, rx, q1⟩ => thn (hv pins s1 σ H1 _ I1 q1) fun w2 s2 ⟨y, H2, I2, ry, q2⟩ =>
    thn (hr pins s2 σ H2 _ I2 q2) fun ws s3 ⟨ps, H3, I3, rel, q3⟩ => ⟨(x, y) :: ps, H3, I3, .cons ⟨rx, ry⟩ rel, q3⟩)

def mergeK (kvs more : List (Key × V)) : List (Key × V) := more.foldl (fun acc kv => putK acc kv.1 kv.2) kvs
theorem KV.merge : ∀ {more : List (Key × V)} {rs : List (Key × Value)} {kvs : List (Key × V)} {vs : List (Key × Value)}, KV more rs → KV kvs vs → KV (mergeK kvs more) (merged vs rs) := by
  intro more rs kvs vs r
  unfold KV at r
  induction r generalizing kvs vs with
  | nil => intro q; exact q
  | @cons p q ps qs h t ih =>
    intro r0
    have e : KV (putK kvs p.1 p.2) (stored vs q.1 q.2) := by
      have := r0.put p.1 h.2
      rw [← h.1]; exact this
    exact ih e
theorem length_mergeK : ∀ (more kvs : List (Key × V)), (mergeK kvs more).length ≤ kvs.length + more.length
  | [], kvs => by show kvs.length ≤ kvs.length + 0; omega
  | p :: r, kvs => by
    have h1 := length_mergeK r (putK kvs p.1 p.2)
    have h2 := length_putK kvs p.1 p.2
    show (mergeK (putK kvs p.1 p.2) r).length ≤ _
    rw [List.length_cons]; omega
theorem carries_of {P : Program} {w : World} : ∀ {kvs : List (Key × V)} {ws : List (Value × Value)}, VV (kvs.map fun kv => (kV kv.1, kv.2)) ws → ∃ rs, Carries (mixKind P w) ws rs ∧ KV kvs rs
  | [], _, r => by rw [List.map_nil] at r; cases r; exact ⟨[], True.intro, .nil⟩
  | p :: kvs, _, r => by
    rw [List.map_cons] at r
    cases r with
    | @cons a b as bs h t =>
      obtain ⟨rs, c, q⟩ := carries_of (P := P) (w := w) t
      obtain ⟨b1, b2⟩ := b
      exact ⟨(p.1, b2) :: rs, ⟨kV_is h.1, rfl, c⟩, .cons ⟨rfl, h.2⟩ q⟩
/-- {k: v, ..} with keys ints and texts; the new dict stands empty while the pairs are made -/
def tDisp (trs : List (TE × TE)) : TE := fun σ H Q => ∀ p, H p = none → tPairs trs σ (upd H p (.dK [])) fun ps H2 => H2 p = some (.dK []) ∧ ∃ kvs : List (Key × V), ps = kvs.map (fun kv => (kV kv.1, kv.2)) ∧ kvs.length ≤ 15 ∧ Q (.ref p) (upd H2 p (.dK (mergeK [] kvs)))
theorem pe_disp {X : Cx} {pos : Pos} {keys : List (Option Expr)} {values : List Expr} {trs : List (TE × TE)} (h : PPs X pos keys values trs) (hall : keys.all (·.isSome) = true) (hl : keys.length = values.length) (h0 : keys ≠ [])
    (h15 : keys.length ≤ 15) : PE X (.Dict keys values pos) (tDisp trs) := by
  intro pins s σ H Q I q
  have hn := I.hok.fresh (Nat.le_refl s.heap.objs.size)
  have I1 := I.laid (a := s.heap.objs.size) (o := .dK []) (h' := s.heap.push { cls := .type "dict", data := .dict #[] }) (t' := s.toks) (fun _ _ q => Heap.get?_push_of_some _ q) (Nat.le_refl _) (dk_empty s.heap I.big)
  refine wpAny_Dict_walk (knd := mixKind X.prog X.w) hall hl h0 h15 (thn (h pins _ σ _ _ I1 (q _ hn)) fun ws s2 ⟨ps, H2, I2, rel, e, kvs, ep, lk, q2⟩ => ?_)
  subst ep
  obtain ⟨rs, c, rk⟩ := carries_of (P := X.prog) (w := X.w) rel
  obtain ⟨z, hd, vs0, r0, dd⟩ := dk_of I2.hok e
  cases r0
  refine ⟨rs, c, dd, fun h' dd' hs => ⟨.ref s.heap.objs.size, _, ?_, rfl, q2⟩⟩
  have hz : (mergeK [] kvs).length ≤ sizeLine := by
    have h1 := length_mergeK kvs []
    rw [List.length_nil] at h1
    rw [sizeLine_eq]; omega
  have he : ∃ q, h'.get? s.heap.objs.size = some q := let ⟨q, _, _, hq, _⟩ := dd'; ⟨q, hq⟩
  exact d_write I2 (by rw [e]; exact True.intro) hs he (dk_new hz hd (rk.merge .nil) dd')


/-! ### methods -/
/-- a method call o.m(e) of a built-in, with one argument: what must be seen of the text -/
structure M1 (X : Cx) (o : Expr) (m : Str) (apos : Pos) (e : Expr) (cpos : Pos) : Prop where
  base : attributeBase o m X.env (eval o X.env) = eval o X.env
  few : ((backTo cpos (starEach [e] X.env)).all (fun x => !x.1) && (backToKw cpos (keywordEach [] X.env)).all (fun x => x.1.isSome)
    && decide (([e] : List Expr).length + ([] : List Keyword).length + (if ([] : List Keyword).isEmpty then 0 else 1) < 30)) = true
  line : (apos.endLine == cpos.line) = true
  trees : backTo cpos (starEach [e] X.env) = [(false, eval e X.env)]
structure M2 (X : Cx) (o : Expr) (m : Str) (apos : Pos) (e f : Expr) (cpos : Pos) : Prop where
  base : attributeBase o m X.env (eval o X.env) = eval o X.env
  few : ((backTo cpos (starEach [e, f] X.env)).all (fun x => !x.1) && (backToKw cpos (keywordEach [] X.env)).all (fun x => x.1.isSome)
    && decide (([e, f] : List Expr).length + ([] : List Keyword).length + (if ([] : List Keyword).isEmpty then 0 else 1) < 30)) = true
  line : (apos.endLine == cpos.line) = true
  trees : backTo cpos (starEach [e, f] X.env) = [(false, eval e X.env), (false, eval f X.env)]

section
variable {X : Cx} {pins : List (Addr × Obj)} {σ : St} {H : Hp} {s : Shared} {a : Addr} {y d : V} {u r : Value} {o : Option V} {A : Around} {E : Value → Shared → Prop}
end

section
variable {X : Cx} {o e f : Expr} {apos cpos : Pos} {td ty tx : TE}
end

/-! ### dict(d): a copy -/
section
variable {X : Cx} {pins : List (Addr × Obj)} {σ : St} {H : Hp} {s : Shared} {a : Addr} {kvs : List (Key × V)} {A : Around} {E : Value → Shared → Prop}
end


section
variable {X : Cx} {pins : List (Addr × Obj)} {σ : St} {H : Hp} {s : Shared} {a : Addr} {y : V} {u : Value} {A : Around} {E : Value → Shared → Prop}
end
end L2

namespace Att
open PySem PySem.W PySem.Calls PyProof.Rows

/-! ### the script -/
theorem ints_of_wellAll {P : Params} {h : Heap} : ∀ (ns : List Int) (vs : List Value), WellAll P h vs (ns.map WData.int) → IntsAre vs ns := by
  intro ns
  induction ns with
  | nil =>
    intro vs w
    rw [List.map_nil] at w
    cases w
    exact .nil
  | cons n ns ih =>
    intro vs w
    rw [List.map_cons] at w
    cases w with
    | cons a b =>
      cases a
      exact .cons _ _ (ih _ b)

theorem script_of {l : OpenLaw} {n : Nat} (hn : l.most = some n) {P : Params} {h : Heap} {args : List WData} {vals : List Value}
    (hpre : l.row.toRowW.claim.pre args = true) (hwl : WellAll P h vals args) :
    ∃ a vs ns, vals = [Value.ref a] ∧ args = [WData.list (ns.map WData.int)] ∧ h.get? a = some { cls := .type "list", data := .seq vs.toArray } ∧ IntsAre vs ns ∧ ns.length ≤ n := by
  have hsh : WShape.hasAll [] args [.list .int] = true := (pre_splitW hpre).1
  have hc : l.pre.holds [] { args := args } = true := (pre_splitW hpre).2
  obtain ⟨d, r, rfl, h1, h2⟩ := hasAllW_cons hsh
  obtain rfl := hasAllW_nil h2
  obtain ⟨xs, rfl, h3⟩ := hasW_list h1
  obtain ⟨ns, rfl⟩ := items_int h3
  have hlen : ns.length ≤ n := by
    unfold OpenLaw.pre at hc
    have h4 : (WTm.not (.lt (.lit (.int (n : Int))) (.len (.arg 0)))).holds [] { args := [.list (ns.map .int)] } = true := by
      have h4 := (holds_andW hc).1
      rw [hn] at h4
      exact h4
    have h5 := condW_of h4 (w_not (w_lt w_lit (w_len_list (w_arg rfl))))
    rw [List.length_map] at h5
    refine Nat.le_of_not_lt fun q => ?_
    have q' : (n : Int) < ((ns.length : Nat) : Int) := by omega
    first
      | (rw [decide_eq_true q'] at h5; exact absurd h5 (by decide))
      | (simp at h5; omega)
  cases hwl with
  | cons w1 w2 =>
    cases w2
    cases w1 with
    | list ho hall => exact ⟨_, _, ns, rfl, rfl, ho, ints_of_wellAll ns _ hall, hlen⟩

theorem post_true (l : OpenLaw) (args : List WData) : l.row.toRowW.claim.post args (.bool true) args = true :=
  postW_of (r := l.row.toRowW) (X := (true == true))
    (show WShape.has [] (.bool true) .bool = true by first | rfl | decide | simp [WShape.has, WShape.arms, WShape.armsAll])
    (show (WTm.eq .res (.lit (.bool true))).value [] { args := args, res := some (.bool true), after := args } = some (.bool (true == true)) from w_eq_bool (w_res rfl) w_lit) rfl

/-! ### the attachment: holds_open's last premise (the goal 'hc' behind k_head) from a wpAny of the law's body -/
/-- the same from a codeAny of the CALL (for a layer whose function contracts speak of calls) -/
theorem attach_call {l : OpenLaw} {n : Nat} {q : Program} {loose : List Str} {XP : (Str → Option Value) → Heap → Prop} {YP : World → Heap → Prop} {d : DefRec}
    (hn : l.most = some n) (hdf : d.params.defaults = [])
    (call : ∀ (w : World) (s₀ s₁ : Shared) (mg mb : Str → Option Value) (fa : Addr) (o : Obj) (pm cd doc : Value) (a : Addr) (vs : List Value) (ns : List Int),
      Ground q loose [] XP w s₀ mg mb s₁.heap → YP w s₁.heap →
      s₁.heap.get? fa = some o → o.data = .func (docDef d.name d.params d.body d.scope pm cd doc) → s₁.heap.CodeRec cd d.name → mg d.name = some (.ref fa) →
      s₁.heap.get? a = some { cls := .type "list", data := .seq vs.toArray } → IntsAre vs ns → ns.length ≤ n → s₁.gens = #[] →
      codeAny (model l.prog w) callerA (.call (.ref fa) ⟨[.ref a], []⟩) (fun r s' => r = .ok (.ret (.bool true)) ∧ OldK s₁.heap s'.heap ∧ s'.os = s₁.os ∧ AllBare s'.gens) s₁) :
    WalkO q loose XP YP l.row.toRowW d [] (fun f vs => PySem.call f vs) := by
  intro w s₀ s₁ mg mb G Y fa o pm cd doc dV kV ho hd hcd hD hmg hg args vals as hpre hlay hrd hwl hlo
  obtain rfl : dV = .none := Dflts.none hD hdf
  obtain rfl : kV = .none := Dflts.noKw hD
  obtain ⟨a, vs, ns, rfl, rfl, hobj, hints, hlen⟩ := script_of hn hpre hwl
  refine enter_call (codeAny_mono (call w s₀ s₁ mg mb fa o pm cd doc a vs ns G Y ho (fd_plain hd) hcd hmg hobj hints hlen hg) fun r s' hq => ?_)
  obtain ⟨rfl, h2, h3, h4⟩ := hq
  exact ⟨.inl ⟨.bool true, .bool true, [], rfl, fun _ => rfl, .bool true, post_true l _, fun _ => ⟨List.Pairwise.nil, fun _ hm => (nomatch hm)⟩⟩, h2, h3, h4⟩

/-! ### rules over ANY heap (no ledger) from facts about the written part K: the library's own take a ledger (News) for what they write -/
section
variable {prog : Program} {w : World} {A : Around} {E : Value → Shared → Prop} {s : Shared} {K : Frag}

/-! the whole heap as the ledger: makes every rule that writes through a ledger a rule over any heap -/
def ledger (h : Heap) (L d : Addr) : List (Addr × Obj) := (List.range h.objs.size).filterMap fun a => if a = L ∨ a = d then none else (h.get? a).map fun o => (a, o)
end
end Att

namespace L2
open PySem PySem.Spec PyProof.Rows

theorem vals_ints : ∀ {vs : List Value} {ns : List Int}, IntsAre vs ns → Vals (ns.map V.int) vs
  | _, _, .nil => .nil
  | _, _, .cons n t h => .cons ⟨t, rfl⟩ (vals_ints h)

/-- nothing is tracked but the script, known to the object (or it is an object of the module) -/
def Only (H : Hp) : Prop := ∀ b, H b = none ∨ ∃ o xs, H b = some (.frz o (.lst xs))

/-- THE HEAD: the law's promise, at the heap behind the top. F, the promise of the law's def, may use that base is part of the heap (so K.In base, base.Ns mainGlobals mg stand in Mod) -/
theorem law_call {P : Program} {w : World} {K : PySem.W.Frag} {mg mb : Str → Option Value} {CX : CXT} {k : Nat} {fa a : Addr} {fd : FuncData} {x : Str} {sp : Sp} {s₁ : Shared} {vs : List Value} {ns : List Int}
    (KX : K.In s₁.heap) (hns : s₁.heap.Ns mainGlobals mg) (hb : s₁.heap.Ns builtinsNs mb) (hbb : ∀ x : Str, x ≠ "__name__" → mb x = bootBuiltins x) (hlim : s₁.heap.NoLimit) (hg : s₁.gens = #[])
    (ha : s₁.heap.get? a = some { cls := .type "list", data := .seq vs.toArray }) (hi : IntsAre vs ns) (hl : ns.length ≤ sizeLine) (hr : Room k callerA)
    (F : ∀ base : Heap, K.In base → base.Ns mainGlobals mg → FnOk P w K mg base CX k fa fd [x] sp) (hbind : ∀ (s : Shared) (u : Value), BindsTo s fd ⟨[u], []⟩ [(x, u)])
    (hsp : ∀ H : Hp, Only H → SqL K H a (ns.map V.int) → sp [.ref a] H (fun v _ => v = .bl true) fun _ _ _ => False)
    (hCX : ∀ H e s', CX [] H s₁ (fun _ _ _ => False) e s' → False) :
    codeAny (model P w) callerA (.call (.ref fa) ⟨[.ref a], []⟩) (fun r s' => r = .ok (.ret (.bool true)) ∧ OldK s₁.heap s'.heap ∧ s'.os = s₁.os ∧ AllBare s'.gens) s₁ := by
  have rv := vals_ints hi
  have lenV := hi.length
  -- from an abstract heap in which nothing but the script may be tracked
  have core : ∀ H : Hp, Only H → SqL K H a (ns.map V.int) → HOk P w H s₁.heap → (∀ b, H b ≠ none → b = a) → (H a ≠ none → K.lookup a = none) →
      codeAny (model P w) callerA (.call (.ref fa) ⟨[.ref a], []⟩) (fun r s' => r = .ok (.ret (.bool true)) ∧ OldK s₁.heap s'.heap ∧ s'.os = s₁.os ∧ AllBare s'.gens) s₁ := by
    intro H hO hS hok hA hK
    have base_of : ∀ {b : Addr} {o : Obj}, s₁.heap.get? b = some o → H b = none → (hidT s₁.heap H).get? b = some o := fun e n => hidT_get e n
    have noA : ∀ {b : Addr} {o : Obj} {es : Array DictEntry} {ep : Nat}, s₁.heap.get? b = some o → o.data = .dict es ep → H b = none := fun {b o es ep} e d => by
      cases q : H b with
      | none => rfl
      | some u =>
        have e' : b = a := hA b (by rw [q]; simp)
        subst e'
        rw [ha] at e; cases e
        have d' : Data.seq vs.toArray _ = Data.dict es ep := d
        cases d'
    have nsK : ∀ {b : Addr} {m : Str → Option Value}, s₁.heap.Ns b m → (hidT s₁.heap H).Ns b m := fun {b m} ⟨o, es, ep, e, d, r⟩ => ⟨o, es, ep, base_of e (noA e d), d, r⟩
    have hKb : K.In (hidT s₁.heap H) := fun b o e => base_of (KX b o e) (by
      cases q : H b with
      | none => rfl
      | some u =>
        have e' : b = a := hA b (by rw [q]; simp)
        subst e'
        rw [hK (by rw [q]; simp)] at e; cases e)
    have hM : Mod K mg (hidT s₁.heap H) := ⟨hKb, nsK hns, ⟨mb, nsK hb, hbb⟩, let ⟨mc, h1, h2⟩ := hlim; ⟨mc, nsK h1, h2⟩⟩
    have e0 : Env0 P w K mg (hidT s₁.heap H) callerA [] s₁ H := ⟨rfl, hM, fun b o e => of_hidT e, Nat.le_of_eq (hidT_size _ _), trivial, fun b hb => absurd (show b ∈ ([] : List Addr) from hb) (by simp), hok, .of_eq hg⟩
    refine codeAny_mono ((F _ hKb (nsK hns)).run callerA [] s₁ H ⟨[.ref a], []⟩ [.ref a] [.ref a] _ _ hr e0 (hbind s₁ (.ref a)) (.cons rfl .nil) (hsp H hO hS)) fun r s' h => ?_
    cases r with
    | error e => exact (hCX H e s' h).elim
    | ok fl =>
      cases fl with
      | next => exact False.elim h
      | brk => exact False.elim h
      | cont => exact False.elim h
      | ret u =>
        obtain ⟨v, H', os, bare, un, hok', r', q⟩ := h
        have q' : v = .bl true := q
        subst q'
        obtain rfl : u = Value.bool true := r'
        refine ⟨rfl, OldK.of_keep fun b o e => ?_, os, bare⟩
        cases q : H b with
        | none => exact un.keep b o e q (by intro z; exact absurd (show b ∈ ([] : List Addr) from z) (by simp)) (by simp)
        | some u =>
          rcases hO b with z | ⟨ob, xs, z⟩
          · rw [q] at z; cases z
          · have z2 := un.frzs b ob _ z
            obtain ⟨e1, _⟩ := hok b _ z
            obtain ⟨e2, _⟩ := hok' b _ z2
            rw [e] at e1; cases e1
            exact e2
  cases hk : K.lookup a with
  | some o =>
    -- the script is one of the module's own objects
    have e := KX a o hk
    rw [ha] at e
    cases e
    refine core (fun _ => none) (fun _ => .inl rfl) (.inr ⟨_, vs.toArray, _, hk, rfl, rfl, rfl, by rw [List.size_toArray, lenV]; exact hl, by simpa using rv⟩) (fun b u z => by have z' : (none : Option HO) = some u := z; cases z') (fun b z => absurd rfl z) fun z => absurd rfl z
  | none =>
    refine core (fun b => if b = a then some (.frz { cls := .type "list", data := .seq vs.toArray } (.lst (ns.map V.int))) else none) (fun b => ?_) (.inl (.inr ⟨{ cls := .type "list", data := .seq vs.toArray }, if_pos rfl⟩)) (fun b u z => ?_) (fun b z => ?_) fun _ => hk
    · by_cases hb : b = a
      · exact .inr ⟨_, _, if_pos hb⟩
      · exact .inl (if_neg hb)
    · by_cases hb : b = a
      · have z' := (if_pos hb).symm.trans z
        cases z'
        subst hb
        exact ⟨ha, by rw [List.length_map]; exact hl, vs, _, rv, ha⟩
      · have z' := (if_neg hb).symm.trans z
        cases z'
    · by_cases hb : b = a
      · exact hb
      · exact absurd (if_neg hb) z
end L2

namespace L2
open PySem PySem.Spec PyProof.Rows

abbrev KOf {K : PySem.W.Frag} {h : Heap} (_ : K.In h) : PySem.W.Frag := K

/-- the goal that k_head leaves (case hc), from the law's promise. F gives the function object fd (K's own) once, then the promise over every base -/
theorem walk_of {l : PySem.W.OpenLaw} {n k : Nat} {q : Program} {loose : List Str} {XP : (Str → Option Value) → Heap → Prop} {YP : World → Heap → Prop} {d : DefRec} {K : Params → PySem.W.Frag} {CX : World → CXT} {sp : World → Sp} {x : Str}
    (hn : l.most = some n) (hn2 : n ≤ sizeLine) (hdf : d.params.defaults = []) (hr : Room k callerA)
    (hY : ∀ (w : World) (h : Heap), YP w h → (K w.params).In h)
    (F : ∀ (w : World) (mg : Str → Option Value) (fa : Addr) (h : Heap), (K w.params).In h → h.Ns mainGlobals mg → mg d.name = some (.ref fa) →
      ∃ fd : FuncData, (∀ (s : Shared) (u : Value), BindsTo s fd ⟨[u], []⟩ [(x, u)]) ∧
        ∀ base : Heap, (K w.params).In base → base.Ns mainGlobals mg → FnOk l.prog w (K w.params) mg base (CX w) k fa fd [x] (sp w))
    (hsp : ∀ (w : World) (H : Hp) (a : Addr) (ns : List Int), ns.length ≤ n → Only H → SqL (K w.params) H a (ns.map V.int) → sp w [.ref a] H (fun v _ => v = .bl true) fun _ _ _ => False)
    (hCX : ∀ (w : World) (H : Hp) (s : Shared) (e : Value) (s' : Shared), CX w [] H s (fun _ _ _ => False) e s' → False) :
    PySem.W.WalkO q loose XP YP l.row.toRowW d [] (fun f vs => PySem.call f vs) := by
  refine Att.attach_call hn hdf fun w s₀ s₁ mg mb fa o pm cd doc a vs ns G Y ho hd hcd hmg hobj hints hlen hg => ?_
  have KX := hY w _ Y
  obtain ⟨fd, hb, hF⟩ := F w mg fa _ KX G.T.g hmg
  exact law_call KX G.T.g G.T.b G.T.builtins G.T.nolimit hg hobj hints (Nat.le_trans hlen hn2) hr hF hb (fun H hO hS => hsp w H a ns hlen hO hS) fun H e s' => hCX w H s₁ e s'
end L2

/- THE LAST THEOREM (shape; LID, My.* are yours):
   My.Adr: a structure of the addresses that your layer names (classes, functions); My.Txt K t: a structure (Prop) of the equations over K;
   My.txt_mk : {K} {implicit addresses ..} (e1 : nsIn K mainGlobals "law" = some (some (.ref f))) (e2 : K.lookup f = some ⟨oc, od, .func (fnOf "law" "law" params body scope dV kV doc pm an cdv ct), sl⟩) (e3 : codeIn K cdv "law" = true) .. : ∃ t, My.Txt K t

set_option maxRecDepth 100000 in
set_option maxHeartbeats 0 in
theorem PySem.Challenge.cw_LID_holds : PySem.Challenge.rw_LID.Holds := by
  w_on; o_law; k_head; (case hw => w_witness2)
  k_fill
  refine L2.walk_of (l := PySem.Challenge.rw_LID) (n := 63) (k := 40) (x := "script") (CX := fun w => ..) (sp := fun _ => My.sp_law) rfl (by decide) rfl ⟨rfl, by decide, by decide⟩ (fun w h Y => PySem.W.kIn_of Y) ?F ?S ?C
  case F =>
    intro w mg fa h KX G hmg
    have T : ∃ t, My.Txt (L2.KOf KX) t := by
      dsimp only [L2.KOf]                          -- K must stand as «<heap const> w.params» for k_is
      refine' My.txt_mk ?e1 ?e2 ?e3 ..
      (case e1 => PySem.W.k_is)                    -- in the order: a name -> its address -> its object -> its parts
      (case e2 => PySem.W.k_is)
      ..
    obtain ⟨t, T⟩ := T
    have e0 := hmg.symm.trans (PySem.W.mg_of KX G T.law)
    cases e0                                       -- fa is the law's own address
    exact ⟨_, fun s u => .of_eq rfl, fun base kb nb => My.law_fn T kb nb⟩     -- if «.of_eq rfl» comes too early: refine' ⟨_, ?b, fun base kb nb => My.law_fn T kb nb⟩; exact fun s u => .of_eq rfl
  case S => exact fun w H a ns hl hO hS => ..
  case C => exact ..
(the tactic k_is has no namespace: write k_is) -/

/-! SHORT WORDS over the layer: a def of the text, its body, what a loop and a test want. -/
namespace L2
open PySem PySem.Spec PyProof.Rows

/-! ### the text by places -/
def defArgs (s : Stmt) : Arguments := match s with
  | .FunctionDef _ a _ _ _ _ _ _ _ _ => a
  | _ => { posonlyargs := [], args := [], vararg := none, kwonlyargs := [], kw_defaults := [], kwarg := none, defaults := [] }
def defBody (s : Stmt) : List Stmt := match s with
  | .FunctionDef _ _ b _ _ _ _ _ _ _ => b
  | _ => []
def defScope (s : Stmt) : Scope := match s with
  | .FunctionDef _ _ _ _ _ _ sc _ _ _ => sc
  | _ => { kind := .function, names := [], isGenerator := false, isCoroutine := false }

/-! ### no exception leaves a def -/
abbrev CX0 : CXT := fun _ _ _ _ _ _ => False
abbrev E0 : XK := fun _ _ _ => False
theorem pass0 {X : Cx} : Passes CX0 X E0 := fun _ _ _ _ _ _ _ h => h.elim

/-! ### a def (or method) of the text as it stands behind the top -/
structure Fun (K : PySem.W.Frag) (x qual : Str) (st : Stmt) (f : Addr) (fd : FuncData) : Prop where
  ex : ∃ (oc : Value) (od : Option Addr) (kV doc pm : Value) (an : Option Addr) (cdv ct : Value) (osl : Array (Option Value)),
    fd = PySem.W.fnOf x qual (defArgs st) (defBody st) (defScope st) .none kV doc pm an cdv ct ∧ K.lookup f = some ⟨oc, od, .func fd, osl⟩ ∧ PySem.W.codeIn K cdv qual = true
  kp : PySem.W.keepIn K (.ref f) = true
section
variable {P : Program} {w : World} {K : PySem.W.Frag} {mg : Str → Option Value} {base : Heap}
/-- THE RULE for a def: its body as a term of rules, and the reading of that term -/
theorem Fun.ok {x qual : Str} {st : Stmt} {f : Addr} {fd : FuncData} {N ps : List Str} {k : Nat} {sp : Sp} (F : Fun K x qual st f fd) (S : FnScope N ps (defScope st)) (len : ∀ vs H Q E, sp vs H Q E → vs.length = ps.length)
    (hbody : ∀ (cdv : Value) (A : Around) (outer : List Env) (s : Shared) (H : Hp) (vs : List V) (Q : VK) (E : XK), Room k (A.deeper (envOfC qual (defScope st) s.heap.objs.size f cdv)) → sp vs H Q E →
      ∃ t, PSs (cxOf CX0 P w K mg base N qual (defScope st) f cdv A outer s H E).nox (defBody st) t ∧ t { nx := fun _ H' => Q .non H', rt := Q } (start N vs) H) : FnOk P w K mg base CX0 (k + 1) f fd ps sp := by
  obtain ⟨oc, od, kV, doc, pm, an, cdv, ct, osl, rfl, lk, hcd⟩ := F.ex
  refine fn_of lk hcd S len fun A outer s H vs Q E hr hsp => ?_
  obtain ⟨t, h, q⟩ := hbody cdv A outer s H vs Q E hr hsp
  exact ⟨t, h.nox, q⟩
/-- how its arguments bind (no defaults): h is «fun _ _ _ _ _ _ us hl => match us, hl with | [_, _], _ => rfl», one _ a parameter -/
theorem Fun.binds {x qual : Str} {st : Stmt} {f : Addr} {fd : FuncData} {ps : List Str} (F : Fun K x qual st f fd)
    (h : ∀ (kV doc pm : Value) (an : Option Addr) (cdv ct : Value) (us : List Value), us.length = ps.length → bindArgs (PySem.W.fnOf x qual (defArgs st) (defBody st) (defScope st) .none kV doc pm an cdv ct) ⟨us, []⟩ = pure (ps.zip us)) : Binds K fd ps [] := by
  obtain ⟨oc, od, kV, doc, pm, an, cdv, ct, osl, rfl, lk, hcd⟩ := F.ex
  exact .all (h kV doc pm an cdv ct)
theorem fun_mk {x qual : Str} {st : Stmt} {f : Addr} {oc : Value} {od an : Option Addr} {osl : Array (Option Value)} {kV doc pm cdv ct : Value} (l : K.lookup f = some ⟨oc, od, .func (PySem.W.fnOf x qual (defArgs st) (defBody st) (defScope st) .none kV doc pm an cdv ct), osl⟩)
    (c : PySem.W.codeIn K cdv qual = true) (k : PySem.W.keepIn K (.ref f) = true) : Fun K x qual st f (PySem.W.fnOf x qual (defArgs st) (defBody st) (defScope st) .none kV doc pm an cdv ct) := ⟨⟨oc, od, kV, doc, pm, an, cdv, ct, osl, rfl, l, c⟩, k⟩
end
theorem hu_of {A : Around} {k : Nat} (hr : Room k A) : A.units + 1 < cLine := Nat.lt_of_le_of_lt (Nat.add_le_add_left (by decide : 1 ≤ 64) _) hr.units
/-! ### expressions in short: the name that stands in the i-th slot -/
section
variable {X : Cx}
theorem pv (i : Nat) {x : Str} {pos : Pos} (hN : X.N[i]? = some x := by rfl) (hv : Vis X.env.scope x := by first | exact Or.inl rfl | exact Or.inr (Or.inl rfl) | exact Or.inr (Or.inr rfl)) (hd : (x == ("__debug__" : Str)) = false := by decide)
    (hcd : (x == ("__classdict__" : Str)) = false := by decide) : PE X (.Name x pos) (tVar i) := pe_var hN hv hd hcd
end

/-! ### tests -/
theorem iteF {A B : Prop} (h : B) : if false = true then A else B := by
  rw [if_neg Bool.false_ne_true]
  exact h
theorem iteT {A B : Prop} (h : A) : if true = true then A else B := by
  rw [if_pos rfl]
  exact h
theorem ite2 {c A B : Prop} [Decidable c] (h1 : c → A) (h2 : ¬ c → B) : if c then A else B := by
  by_cases h : c
  · rw [if_pos h]
    exact h1 h
  · rw [if_neg h]
    exact h2 h
theorem iteNS {c A B : Prop} [Decidable c] (hc : c) (h : B) : if (!decide c) = true then A else B := by
  rw [decide_eq_true hc]
  exact iteF h

/-! ### heaps -/
/-- all that was tracked is as it was -/
def Same (H H' : Hp) : Prop := ∀ b o, H b = some o → H' b = some o
theorem Same.refl (H : Hp) : Same H H := fun _ _ h => h
theorem Same.trans {H H1 H2 : Hp} (a : Same H H1) (b : Same H1 H2) : Same H H2 := fun c o h => b c o (a c o h)
theorem Same.free {H H' : Hp} (e : Same H H') {l : Addr} (h : H' l = Option.none) : H l = Option.none := by
  cases q : H l with
  | none => rfl
  | some o =>
    rw [e l o q] at h
    cases h
theorem Same.seq {K : PySem.W.Frag} {H H' : Hp} {a : Addr} {xs : List V} (e : Same H H') (h : SqL K H a xs) : SqL K H' a xs := by
  rcases h with (h | ⟨o, h⟩) | h
  · exact .inl (.inl (e _ _ h))
  · exact .inl (.inr ⟨o, e _ _ h⟩)
  · exact .inr h

end L2


set_option Elab.async false
set_option linter.all false
set_option maxRecDepth 100000
set_option maxHeartbeats 4000000
namespace L2
open PySem PySem.Spec PyProof.Rows
/-! ### a comprehension over one clause: its block -/
structure Blk where
  cl : List (Str × Addr)
  fp : List Addr
  s : Shared
  H : Hp
  C : Addr
abbrev Cx.blk (X : Cx) (scope : Scope) (x : Str) (L : List Str) (b : Blk) : Cx where
  prog := X.prog
  w := X.w
  K := X.K
  mg := X.mg
  base := X.base
  A := X.A
  N := x :: L
  s₀ := b.s
  H₀ := b.H
  env := compEnvC scope b.cl b.C X.env
  outer := X.stack
  stack := X.stack
  ex := b.fp
  fn := fun _ => false
  calm := X.calm
  pn := []
  xe := fun _ _ => False
def FreeOk (X : Cx) (scope : Scope) : List Nat → List Str → Prop
  | [], [] => True
  | j :: r, y :: q => (X.N[j]? = some y ∧ X.env.scope.names.lookup y = some .cell ∧ scope.names.lookup y = some .free) ∧ FreeOk X scope r q
  | _, _ => False
/-- the block's names: the clause's own, then those of the slots js -/
def stB (σ : St) (v : Option V) (js : List Nat) : St := v :: js.map fun j => (σ[j]?).getD none
theorem FreeOk.get {X : Cx} {scope : Scope} : ∀ {js : List Nat} {L : List Str} {k : Nat} {y : Str}, FreeOk X scope js L → L[k]? = some y → ∃ j, js[k]? = some j ∧ X.N[j]? = some y ∧ X.env.scope.names.lookup y = some .cell ∧ scope.names.lookup y = some .free
  | [], [], _, _, _, e => by simp at e
  | [], _ :: _, _, _, h, _ => h.elim
  | _ :: _, [], _, _, h, _ => h.elim
  | _ :: _, _ :: _, 0, _, h, e => by cases e; exact ⟨_, rfl, h.1⟩
  | _ :: r, _ :: q, k + 1, y, h, e => by
    obtain ⟨j', e1, e2⟩ := FreeOk.get (js := r) (L := q) (k := k) (y := y) h.2 e
    exact ⟨j', e1, e2⟩
theorem FreeOk.len {X : Cx} {scope : Scope} : ∀ {js : List Nat} {L : List Str}, FreeOk X scope js L → js.length = L.length
  | [], [], _ => rfl
  | [], _ :: _, h => h.elim
  | _ :: _, [], h => h.elim
  | _ :: _, _ :: _, h => congrArg Nat.succ (FreeOk.len h.2)
/-- the closure of a block whose free names all have cells -/
theorem closure_go (env : Env) : ∀ (names : List (Str × NameKind)) (acc : List (Str × Addr)), (∀ y ∈ names, y.2 = .free → ∃ c, env.cells.lookup y.1 = some c) → (∀ n c, acc.lookup n = some c → env.cells.lookup n = some c) →
    ∃ cl, (forIn names acc fun (x : Str × NameKind) (r : List (Str × Addr)) => if (x.2 == NameKind.free) = true then do let a ← cellOf env x.1; pure (ForInStep.yield ((x.1, a) :: r)) else pure (ForInStep.yield r) : Sem (List (Str × Addr))) = pure cl ∧
      (∀ n c, cl.lookup n = some c → env.cells.lookup n = some c) ∧ (∀ n c, acc.lookup n = some c → cl.lookup n = some c) ∧ ∀ y ∈ names, y.2 = .free → ∃ c, cl.lookup y.1 = some c
  | [], acc, _, ha => ⟨acc, rfl, ha, fun _ _ e => e, fun _ h => nomatch h⟩
  | y :: r, acc, hy, ha => by
    rw [List.forIn_cons]
    by_cases hk : y.2 = .free
    · obtain ⟨c, hc⟩ := hy y List.mem_cons_self hk
      have hacc : ∀ n d, ((y.1, c) :: acc).lookup n = some d → env.cells.lookup n = some d := fun n d e => by
        rw [List.lookup_cons] at e
        by_cases hn : n = y.1
        · subst hn; simp only [beq_self_eq_true] at e; cases e; exact hc
        · have hb : (n == y.1) = false := beq_eq_false_iff_ne.mpr hn
          simp only [hb] at e; exact ha n d e
      obtain ⟨cl, e1, e2, e3, e4⟩ := closure_go env r ((y.1, c) :: acc) (fun z hz => hy z (List.mem_cons_of_mem _ hz)) hacc
      have hb : (y.2 == NameKind.free) = true := by rw [hk]; rfl
      have hcell : cellOf env y.1 = pure c := by unfold cellOf; rw [hc]
      refine ⟨cl, ?_, e2, fun n d e => ?_, fun z hz hf => ?_⟩
      · simp only [hb, if_true, hcell, pure_bind]
        exact e1
      · by_cases hn : n = y.1
        · subst hn
          have q : cl.lookup y.1 = some c := e3 y.1 c (by rw [List.lookup_cons]; simp)
          have z1 := ha _ _ e
          rw [hc] at z1
          rw [q, z1]
        · exact e3 n d (by rw [List.lookup_cons, beq_eq_false_iff_ne.mpr hn]; exact e)
      · rcases List.mem_cons.mp hz with rfl | hz
        · exact ⟨c, e3 _ c (by rw [List.lookup_cons]; simp)⟩
        · exact e4 z hz hf
    · obtain ⟨cl, e1, e2, e3, e4⟩ := closure_go env r acc (fun z hz => hy z (List.mem_cons_of_mem _ hz)) ha
      have hb : (y.2 == NameKind.free) = false := by
        cases h : y.2 <;> first | rfl | exact absurd h hk
      refine ⟨cl, ?_, e2, e3, fun z hz hf => ?_⟩
      · simp only [hb, Bool.false_eq_true, if_false, pure_bind]
        exact e1
      · rcases List.mem_cons.mp hz with rfl | hz
        · exact absurd hf hk
        · exact e4 z hz hf
theorem closure_all {scope : Scope} {env : Env} (h : ∀ y ∈ scope.names, y.2 = .free → ∃ c, env.cells.lookup y.1 = some c) :
    ∃ cl, closureFor scope env = pure cl ∧ (∀ n c, cl.lookup n = some c → env.cells.lookup n = some c) ∧ ∀ y ∈ scope.names, y.2 = .free → ∃ c, cl.lookup y.1 = some c := by
  obtain ⟨cl, e1, e2, _, e4⟩ := closure_go env scope.names [] h (fun n c e => by simp at e)
  refine ⟨cl, ?_, e2, e4⟩
  unfold closureFor
  show ((forIn scope.names [] fun (x : Str × NameKind) (r : List (Str × Addr)) => _) >>= fun cs => pure cs) = pure cl
  rw [bind_pure]
  exact e1
/-- the loop of a comprehension, the iterator's own step kept -/
theorem compLoop_any {prog : Program} {w : World} {A : Around} {R : Result → Shared → Prop} {s : Shared} {elt target iter : Expr} {ifs : List Expr} {scope : Scope} {pos : Pos} {it acc : Value} {env : Env} (I : Nat → Shared → Prop)
    (turn : ∀ n s, I n s → wpAny (model prog w) A (pyNext it) (fun r s₁ => match r with
      | none => R (.ok .next) s₁
      | some v => wpAny (model prog w) A (letOwnedTupleGo target it v) (fun _ s₁ => wpAny (model prog w) A (assign target env v) (fun _ s₂ =>
          wpAny (model prog w) A (forIn ifs true fun c r => if r = true then do let ok ← isTrue c env (eval c env); pure (ForInStep.yield ok) else pure (ForInStep.yield r)) (fun ok s₃ =>
            if ok = true then wpAny (model prog w) A (eval elt env) (fun x s₄ =>
              wpAny (model prog w) A (call (.builtin "list.append") [acc, x]) (fun _ s₅ => ∃ m, m < n ∧ I m s₅) (fun _ _ => False) s₄) (fun _ _ => False) s₃
            else ∃ m, m < n ∧ I m s₃) (fun _ _ => False) s₂) (fun _ _ => False) s₁) (fun _ _ => False) s₁) (fun _ _ => False) s)
    (n : Nat) (h : I n s) :
    codeAny (model prog w) A (.compLoop (.ListComp elt [⟨target, iter, ifs, 0⟩] scope pos) 0 it acc env) R s := by
  refine codeAny_loop rfl I (fun n s hI => ?_) n h
  show wpAny _ A ((compTurn (.ListComp elt [⟨target, iter, ifs, 0⟩] scope pos) 0 it acc env).onRaise (fun x => do noteFrame x env; theTreesLotGoes x)) _ _ s
  refine wpAny_noted ?_
  rw [compTurn_list]
  refine wpAny_bind (wpAny_standAt (wpAny_bind (wpAny_mono (turn n s hI) (fun r s₁ h₁ => ?_) fun _ _ h' => h'.elim)))
  cases r with
  | none => exact wpAny_pure h₁
  | some v =>
    refine wpAny_bind (wpAny_mono h₁ (fun _ s₁ h₁ => ?_) fun _ _ h' => h'.elim)
    refine wpAny_bind (wpAny_mono h₁ (fun _ s₂ h₂ => wpAny_bind (wpAny_mono h₂ (fun ok s₃ h₃ => ?_) fun _ _ h' => h'.elim)) fun _ _ h' => h'.elim)
    cases ok with
    | false => exact wpAny_pure ⟨rfl, h₃⟩
    | true =>
      exact wpAny_bind (wpAny_bind (wpAny_mono h₃ (fun x s₄ h₄ => wpAny_bind (wpAny_mono h₄ (fun _ s₅ h₅ => wpAny_pure (wpAny_pure ⟨rfl, h₅⟩)) fun _ _ h' => h'.elim)) fun _ _ h' => h'.elim))
/-- the tests of a clause: none, or one -/
def PIfs (X : Cx) (ifs : List Expr) (t : TT) : Prop :=
  ∀ (pins : List (Addr × Obj)) (s : Shared) (σ : St) (H : Hp) (Q : Bool → Hp → Prop), Inv X pins σ H s → t σ H Q →
    wpAny (model X.prog X.w) X.A (forIn ifs true fun c r => if r = true then do let ok ← isTrue c X.env (eval c X.env); pure (ForInStep.yield ok) else pure (ForInStep.yield r)) (TP X pins σ Q) X.xe s
def tAll : TT := fun _ H Q => Q true H
theorem pifs_nil {X : Cx} : PIfs X [] tAll := fun _ _ _ H _ I h => wpAny_tests_nil ⟨H, I, h⟩
theorem pifs_one {X : Cx} {c : Expr} {t : TT} (h : PT X c t) : PIfs X [c] t := fun pins s σ H Q I q => wpAny_tests_one (h pins s σ H Q I q)
/-- [elt for x in iter if ..]: p is the new list's place; W tells the items so far, by the turn and a measure -/
def tComp (wi : TI) (js : List Nat) (tt : TT) (te : TE) : TE := fun σ H Q => wi σ H fun J H1 => ∀ p, H1 p = none → ∃ W : Nat → Nat → List V → Hp → Prop, (∃ m, W 0 m [] (upd H1 p (.lst []))) ∧
  ∀ i m ys H, W i m ys H → H p = some (.lst ys) ∧
    ((J.stop i H ∧ Q (.ref p) H) ∨ (J.go i H ∧ ∃ N : List V → Hp → Prop, (∀ ys' H', N ys' H' → ∃ m', m' < m ∧ W (i + 1) m' ys' H') ∧ ∀ x H', J.yld i H x H' → tt (stB σ (some x) js) H' fun b H2 =>
      if b = true then te (stB σ (some x) js) H2 fun y H3 => H3 p = some (.lst ys) ∧ ys.length < sizeLine ∧ N (ys ++ [y]) (upd H3 p (.lst (ys ++ [y])))
      else N ys H2))
section
variable {X : Cx} {x : Str} {px pos : Pos} {elt iter : Expr} {ifs : List Expr} {scope : Scope} {wi : TI} {js : List Nat} {L : List Str} {tt : TT} {te : TE}
theorem blk_ok {pins : List (Addr × Obj)} {σ : St} {b : Blk} (I : Inv X pins σ b.H b.s) (hkind : scope.kind = .function) (hcell : ∀ y ∈ scope.names, y.2 ≠ .cell)
    (h2 : ∀ n c, b.cl.lookup n = some c → X.env.cells.lookup n = some c) (h3 : ∀ y ∈ scope.names, y.2 = .free → ∃ c, b.cl.lookup y.1 = some c) (hf : ∀ a ∈ b.fp, FpOk X pins b.H a ∧ a < b.s.heap.objs.size) (hC : b.s.heap.objs.size ≤ b.C) :
    (X.blk scope x L b).Ok where
  mod := I.ok.mod
  kind := hkind
  glob := I.ok.glob
  blt := I.ok.blt
  above := hC
  inj := fun y z c e1 e2 => I.ok.inj y z c (h2 y c e1) (h2 z c e2)
  has := fun y hy => by
    have key : ∀ names : List (Str × NameKind), (∀ z ∈ names, z.2 ≠ .cell) → ∀ {k : NameKind}, (names.map fun (n, k) => if (k == NameKind.free && X.env.scope.kind == .function && X.env.kindOf n == some .cell) then (n, NameKind.cell) else (n, k)).lookup y = some k → k = .cell ∨ k = .free →
        ∃ z ∈ names, z.1 = y ∧ z.2 = .free := by
      intro names
      induction names with
      | nil => intro _ k e; simp at e
      | cons z r ih =>
        intro hz k e hk
        obtain ⟨n, kk⟩ := z
        by_cases hn : y = n
        · subst hn
          by_cases hc : (kk == NameKind.free && X.env.scope.kind == .function && X.env.kindOf y == some .cell) = true
          · have : kk = .free := by
              cases kk <;> first | rfl | (simp at hc)
            exact ⟨(y, kk), List.mem_cons_self, rfl, this⟩
          · rw [List.map_cons] at e
            simp only [if_neg hc, List.lookup_cons, beq_self_eq_true] at e
            cases e
            rcases hk with rfl | rfl
            · exact absurd rfl (hz (y, _) List.mem_cons_self)
            · exact ⟨(y, _), List.mem_cons_self, rfl, rfl⟩
        · have hb : (y == n) = false := beq_eq_false_iff_ne.mpr hn
          rw [List.map_cons] at e
          have e' : (r.map fun (n, k) => if (k == NameKind.free && X.env.scope.kind == .function && X.env.kindOf n == some .cell) then (n, NameKind.cell) else (n, k)).lookup y = some k := by
            by_cases hc : (kk == NameKind.free && X.env.scope.kind == .function && X.env.kindOf n == some .cell) = true
            · simp only [if_pos hc, List.lookup_cons, hb] at e; exact e
            · simp only [if_neg hc, List.lookup_cons, hb] at e; exact e
          obtain ⟨z, hz1, hz2⟩ := ih (fun z q => hz z (List.mem_cons_of_mem _ q)) e' hk
          exact ⟨z, List.mem_cons_of_mem _ hz1, hz2⟩
    have hy' : ∃ z ∈ scope.names, z.1 = y ∧ z.2 = .free := by
      rcases hy with e | e
      · exact key scope.names hcell e (.inl rfl)
      · exact key scope.names hcell e (.inr rfl)
    obtain ⟨z, hz, rfl, hzf⟩ := hy'
    exact h3 z hz hzf
  cab := fun _ _ e => nomatch e
  hd := I.ok.hd
  frames := I.ok.frames
  stk := .inl rfl
  exf := fun a ha => ⟨Nat.ne_of_lt (Nat.lt_of_lt_of_le (hf a ha).2 hC), fun y c e => (hf a ha).1.2.2.2.2.1 y c (h2 y c e)⟩
  bs := I.bs
  bsz := Nat.le_trans I.ok.bsz I.sz
  noex := fun a o e ha => by
    rcases (hf a ha).1.2.2.2.1 with z | z
    · exact I.ok.noex a o e z
    · exact absurd (Nat.lt_of_lt_of_le (Heap.lt_size (I.ok.bs a o e).1) z) (Nat.lt_irrefl _)
  exfs := fun a ha hb => by
    rcases List.mem_cons.mp (I.stkSub a hb) with z | z
    · exact (hf a ha).1.2.1 z
    · exact (hf a ha).1.2.2.1 z
  funs := I.stack
  frf := I.stkFree
theorem blk_start {pins : List (Addr × Obj)} {σ : St} {b : Blk} {h' : Heap} {m : Str → Option Value} {t' : Nat} (I : Inv X pins σ b.H b.s) (ok : (X.blk scope x L b).Ok) (hjs : FreeOk X scope js L) (hn : h'.Ns b.C m)
    (h2 : ∀ n c, b.cl.lookup n = some c → X.env.cells.lookup n = some c) (h3 : ∀ y ∈ scope.names, y.2 = .free → ∃ c, b.cl.lookup y.1 = some c)
    (keep : ∀ a o, b.s.heap.get? a = some o → h'.get? a = some o) (hC : b.s.heap.objs.size ≤ b.C) : Inv (X.blk scope x L b) [] (stB σ none js) b.H { b.s with heap := h', toks := t' } where
  ok := ok
  os := rfl
  bare := I.bare
  base := Un.kept keep
  loc := ⟨m, hn, fun i y v e1 e2 _ => by
    cases i with
    | zero => exact nomatch e2
    | succ i =>
      have e1' : L[i]? = some y := e1
      have e2' : (js.map fun j => (σ[j]?).getD none)[i]? = some (some v) := e2
      rw [List.getElem?_map] at e2'
      obtain ⟨j, hj, hz, hk, hs⟩ := hjs.get e1'
      rw [hj] at e2'
      have eσ : σ[j]? = some (some v) := by
        have q : (σ[j]?).getD none = some v := Option.some.inj e2'
        cases hσ : σ[j]? with
        | none => rw [hσ] at q; exact nomatch q
        | some o => rw [hσ] at q; exact congrArg some q
      obtain ⟨mX, hnX, hlX⟩ := I.loc
      obtain ⟨u, ru, lk⟩ := hlX j y v hz eσ (.inr (.inl hk))
      refine ⟨u, ru, .inr ?_⟩
      have hkk : X.env.kindOf y = some .cell := hk
      rcases lk with ⟨k, _⟩ | ⟨_, c, ec, hc⟩
      · rw [hkk] at k; cases k
      · obtain ⟨z', hz', hzf⟩ : ∃ z' ∈ scope.names, z'.1 = y ∧ z'.2 = .free := by
          have key : ∀ names : List (Str × NameKind), names.lookup y = some .free → ∃ z' ∈ names, z'.1 = y ∧ z'.2 = .free := by
            intro names
            induction names with
            | nil => intro e; simp at e
            | cons q r ih =>
              intro e
              obtain ⟨n, kk⟩ := q
              by_cases hn : y = n
              · subst hn
                simp only [List.lookup_cons, beq_self_eq_true] at e
                cases e
                exact ⟨_, List.mem_cons_self, rfl, rfl⟩
              · rw [List.lookup_cons, beq_eq_false_iff_ne.mpr hn] at e
                obtain ⟨z', a, b'⟩ := ih e
                exact ⟨z', List.mem_cons_of_mem _ a, b'⟩
          exact key _ hs
        obtain ⟨c', hc'⟩ := h3 z' hz' hzf.2
        rw [hzf.1] at hc'
        have ecc : c' = c := by
          have q := h2 _ _ hc'
          rw [ec] at q; exact (Option.some.inj q).symm
        subst ecc
        refine ⟨.inl ?_, c', hc', ?_⟩
        · -- the relabelled kind
          have key : ∀ names : List (Str × NameKind), names.lookup y = some .free → (names.map fun (n, k) => if (k == NameKind.free && X.env.scope.kind == .function && X.env.kindOf n == some .cell) then (n, NameKind.cell) else (n, k)).lookup y = some .cell := by
            intro names
            induction names with
            | nil => intro e; simp at e
            | cons q r ih =>
              intro e
              obtain ⟨n, kk⟩ := q
              by_cases hn : y = n
              · subst hn
                simp only [List.lookup_cons, beq_self_eq_true] at e
                cases e
                have hkf : X.env.scope.kind = .function := I.ok.kind
                rw [List.map_cons]
                simp [hkf, hkk]
              · have hb := beq_eq_false_iff_ne.mpr hn
                rw [List.lookup_cons, hb] at e
                rw [List.map_cons]
                by_cases hcc : (kk == NameKind.free && X.env.scope.kind == .function && X.env.kindOf n == some .cell) = true
                · simp only [if_pos hcc, List.lookup_cons, hb]; exact ih e
                · simp only [if_neg hcc, List.lookup_cons, hb]; exact ih e
          exact key _ hs
        · obtain ⟨o, ho, hd⟩ := hc
          exact ⟨o, keep _ _ ho, hd⟩⟩
  cell := fun y c e => by
    obtain ⟨v, o, ho, hd⟩ := I.cell y c (h2 y c e)
    exact ⟨v, o, keep _ _ ho, hd⟩
  free := I.hok.fresh hC
  freeC := fun y c e => I.freeC y c (h2 y c e)
  pin := fun _ hp => nomatch hp
  hok := I.hok.kept keep
  len := by simp [stB, hjs.len]
end
end L2
namespace L2
open PySem PySem.Spec PyProof.Rows
section
variable {X : Cx} {x : Str} {px pos : Pos} {elt iter : Expr} {ifs : List Expr} {scope : Scope} {wi : TI} {js : List Nat} {L : List Str} {tt : TT} {te : TE}
/-- what of its scope a comprehension is asked -/
structure CompOk (X : Cx) (scope : Scope) (x : Str) (js : List Nat) (L : List Str) : Prop where
  kind : scope.kind = .function
  cell : ∀ y ∈ scope.names, y.2 ≠ .cell
  names : ∀ y ∈ scope.names, y.2 = .local → scope.names.lookup y.1 = some .local
  own : scope.names.lookup x = some .local
  free : FreeOk X scope js L
  nd : (x :: L).Nodup
  up : ∀ y ∈ scope.names, y.2 = .free → X.env.scope.names.lookup y.1 = some .cell ∨ X.env.scope.names.lookup y.1 = some .free
theorem comp_ok {sc : Scope} (hsc : X.env.scope = sc) (free : FreeOk X scope js L) (kind : scope.kind = .function := by rfl) (cell : ∀ y ∈ scope.names, y.2 ≠ .cell := by decide +kernel)
    (names : ∀ y ∈ scope.names, y.2 = .local → scope.names.lookup y.1 = some .local := by decide +kernel) (own : scope.names.lookup x = some .local := by rfl) (nd : (x :: L).Nodup := by decide +kernel)
    (up : ∀ y ∈ scope.names, y.2 = .free → sc.names.lookup y.1 = some .cell ∨ sc.names.lookup y.1 = some .free := by decide +kernel) : CompOk X scope x js L :=
  ⟨kind, cell, names, own, free, nd, by rw [hsc]; exact up⟩
theorem comp_core (hc : X.calm = true) (hi : PI X (.Name x px) iter wi) (S : CompOk X scope x js L) (hif : ∀ b, PIfs (X.blk scope x L b) ifs tt) (helt : ∀ b, PE (X.blk scope x L b) elt te)
    {pins : List (Addr × Obj)} {s : Shared} {σ : St} {H : Hp} {Q : VK} (I : Inv X pins σ H s) (h : tComp wi js tt te σ H Q) {cl : List (Str × Addr)}
    (h2 : ∀ n c, cl.lookup n = some c → X.env.cells.lookup n = some c) (h3 : ∀ y ∈ scope.names, y.2 = .free → ∃ c, cl.lookup y.1 = some c) {RR : Value → Addr → Result → Shared → Prop}
    (hRR : ∀ p C s' H' m, Inv X pins σ H' s' → s'.heap.Ns C m → H' C = none → C ≠ X.env.locals → X.s₀.heap.objs.size ≤ C → (∀ y c, X.env.cells.lookup y = some c → c ≠ C) → (∀ q ∈ X.pn ++ pins, q.1 ≠ C) → Q (.ref p) H' → RR (.ref p) C (.ok .next) s') :
    wpAny (model X.prog X.w) X.A (eval iter X.env) (fun xv s₁ => wpAny (model X.prog X.w) X.A (pyIter xv) (fun it s₂ => wpAny (model X.prog X.w) X.A (newList []) (fun acc s₃ =>
      wpAny (model X.prog X.w) X.A (newFunctionEnv scope X.env.globals cl [] X.env.qual none .none (some X.env)) (fun cenv s₄ =>
        codeAny (model X.prog X.w) X.A (.compStart (.ListComp elt [⟨.Name x px, iter, ifs, 0⟩] scope pos) 0 it acc { cenv with scope := relabel scope X.env }) (RR acc cenv.locals) s₄) X.xe s₃) X.xe s₂) X.xe s₁) X.xe s := by
  refine thn (hi pins s σ H _ I h) fun v s1 h1 => thn h1 fun itv s2 h2' => ?_
  obtain ⟨it, fp, tn, J, H2, e, I2, T, st2, f2, hp⟩ := h2'
  subst e
  refine wpAny_newObj_type (wpAny_newFunctionEnv S.cell (by intro y hy; simp at hy) (fun h₁ hns₁ hsb₁ => ?_) S.kind)
  dsimp only at hns₁ hsb₁ ⊢
  have I3 : Inv X pins σ (upd H2 s2.heap.objs.size (.lst [])) { s2 with heap := s2.heap.push { cls := .type "list", data := .seq ([] : List Value).toArray }, toks := s2.toks } := I2.lnew (ys := []) (its := []) (t' := s2.toks) .nil (Nat.zero_le _)
  have hfr2 : H2 s2.heap.objs.size = none := I2.fresh
  generalize hsB : ({ s2 with heap := s2.heap.push { cls := .type "list", data := .seq ([] : List Value).toArray }, toks := s2.toks } : Shared) = sB at I3
  have ehB : s2.heap.push { cls := .type "list", dict := none, data := .seq ([] : List Value).toArray } = sB.heap := by rw [← hsB]
  generalize hHB : upd H2 s2.heap.objs.size (.lst []) = HB at I3
  rw [ehB] at hns₁ hsb₁ ⊢
  have fpl : ∀ a ∈ fp, a < s2.heap.objs.size := fun a ha => by
    obtain ⟨o, e, _⟩ := T.obj _ _ st2 a ha
    exact Heap.lt_size e
  have szB : sB.heap.objs.size = s2.heap.objs.size + 1 := by rw [← hsB]; exact Heap.size_push ..
  have hfp : ∀ a ∈ fp, FpOk X pins HB a ∧ a < sB.heap.objs.size := fun a ha => by
    refine ⟨⟨?_, (f2 a ha).2⟩, by rw [szB]; exact Nat.lt_succ_of_lt (fpl a ha)⟩
    rw [← hHB, upd_ne (Nat.ne_of_lt (fpl a ha))]
    exact (f2 a ha).1
  have keep : ∀ a o, sB.heap.get? a = some o → h₁.get? a = some o := fun a o e => hsb₁.extBut a o (Nat.ne_of_lt (Heap.lt_size e)) (Heap.get?_push_of_some _ e)
  let b : Blk := ⟨cl, fp, sB, HB, sB.heap.objs.size⟩
  have ok : (X.blk scope x L b).Ok := blk_ok (b := b) I3 S.kind S.cell h2 h3 hfp (Nat.le_refl _)
  have IB : ∀ t' : Nat, Inv (X.blk scope x L b) [] (stB σ none js) HB { sB with heap := h₁, toks := t' } := fun t' => blk_start (b := b) (t' := t') I3 ok S.free hns₁ h2 h3 keep (Nat.le_refl _)
  obtain ⟨W, ⟨m0, w0⟩, turn⟩ := hp _ hfr2
  rw [hHB] at w0
  have st1 : tn 0 h₁ := T.keep _ _ _ st2 fun a ha o e => keep a o (by rw [← ehB]; exact Heap.get?_push_of_some _ e)
  have stat : ∀ {H' : Hp}, (∀ a ∈ fp, H' a = none) → ∀ a ∈ fp, FpOk (X.blk scope x L b) [] H' a := fun {H'} hn a ha =>
    ⟨hn a ha, (ok.exf a ha).1, ok.exfs a ha, .inl ha, (ok.exf a ha).2, fun _ hq => nomatch hq⟩
  have ltC : ∀ a o, sB.heap.get? a = some o → a ≠ sB.heap.objs.size := fun a o e => Nat.ne_of_lt (Heap.lt_size e)
  have loop : ∀ s₃ : Shared, (∃ t', s₃ = { sB with heap := h₁, toks := t' }) →
      codeAny (model X.prog X.w) X.A (.compLoop (.ListComp elt [⟨.Name x px, iter, ifs, 0⟩] scope pos) 0 (.ref it) (.ref s2.heap.objs.size) (compEnvC scope cl sB.heap.objs.size X.env)) (RR (.ref s2.heap.objs.size) sB.heap.objs.size) s₃ := by
    rintro s₃ ⟨t', rfl⟩
    refine compLoop_any (fun n s' => ∃ i v' H' ys, Inv (X.blk scope x L b) [] (stB σ v' js) H' s' ∧ tn i s'.heap ∧ (∀ a ∈ fp, H' a = none) ∧ W i n ys H') ?_ m0 ⟨0, none, HB, [], IB t', st1, fun a ha => (hfp a ha).1.1, w0⟩
    rintro n s3 ⟨i, v3, H3, ys, I4, st3, fr3, w3⟩
    obtain ⟨hacc, alt⟩ := turn i n ys H3 w3
    rcases alt with ⟨stop, q⟩ | ⟨go, N, hN, step⟩
    · refine thn (T.done (X.blk scope x L b) rfl rfl rfl hc i [] s3 _ H3 _ I4 (stat fr3) st3 stop) fun r s4 ⟨hr, I5⟩ => ?_
      subst hr
      have IX : Inv X pins σ H3 s4 := I3.call' I5.os I5.base I5.hok I5.bare fun a ha => ⟨(hfp a ha).1.2.2.2.1, (hfp a ha).1.2.1, (hfp a ha).1.2.2.2.2.1, (hfp a ha).1.2.2.2.2.2⟩
      obtain ⟨m, hn, _⟩ := I5.loc
      refine hRR _ _ s4 H3 m IX hn I5.free (Ne.symm (Nat.ne_of_lt I3.lt)) I3.sz (fun y c e => ?_) (fun p hp => ltC _ _ (I3.pin p hp).1) q
      obtain ⟨v, o, ho, _⟩ := I3.cell y c e
      exact ltC _ _ ho
    · refine thn (T.item (X.blk scope x L b) rfl rfl rfl hc i [] s3 _ H3 _ I4 (stat fr3) st3 go) fun r s4 ⟨u, hr, h4⟩ => ?_
      subst hr
      refine thn h4 fun _ s5 ⟨x5, H5, I5, r5, y5, st5, fr5⟩ => ?_
      have I5' := I5.pinned (stat fr5) (T.obj _ _ st5)
      refine wpAny_assign_Name (store_ok (i := 0) I5' S.nd rfl (.inl (lookup_relabel_local S.own)) r5 (fun s6 I6 => ?_) (.inr (lookup_relabel_local S.own)))
      have I6' : Inv (X.blk scope x L b) ([] ++ pinsAt fp s5.heap) (stB σ (some x5) js) H5 s6 := I6
      have back : ∀ {s7 : Shared} {H7 : Hp}, Inv (X.blk scope x L b) ([] ++ pinsAt fp s5.heap) (stB σ (some x5) js) H7 s7 → Inv (X.blk scope x L b) [] (stB σ (some x5) js) H7 s7 ∧ tn (i + 1) s7.heap ∧ ∀ a ∈ fp, H7 a = none := fun {s7 H7} I7 => by
        refine ⟨I7.unpinned, T.keep _ _ _ st5 fun a ha o e => (I7.pin (a, o) (List.mem_append_right _ (List.mem_append_right _ (mem_pinsAt ha e)))).1, fun a ha => ?_⟩
        obtain ⟨o, e, d⟩ := T.obj _ _ st5 a ha
        exact (I7.pin (a, o) (List.mem_append_right _ (List.mem_append_right _ (mem_pinsAt ha e)))).2.1
      refine thn (hif b _ s6 _ H5 _ I6' (step x5 H5 y5)) fun okb s7 ⟨H7, I7, q7⟩ => ?_
      cases okb with
      | false =>
        simp only [Bool.false_eq_true, if_false] at q7 ⊢
        obtain ⟨m', hm, w7⟩ := hN _ _ q7
        obtain ⟨J7, t7, f7⟩ := back I7
        exact ⟨m', hm, i + 1, some x5, H7, ys, J7, t7, f7, w7⟩
      | true =>
        simp only [if_true] at q7 ⊢
        refine thn (helt b _ s7 _ H7 _ I7 q7) fun yv s8 ⟨y, H8, I8, r8, e8, z8, n8⟩ => ?_
        obtain ⟨m', hm, w8⟩ := hN _ _ n8
        refine thn (mt_append _ s8 _ H8 (.ref s2.heap.objs.size) [y] (.ref s2.heap.objs.size) [yv] (fun _ H9 => H9 = upd H8 s2.heap.objs.size (.lst (ys ++ [y]))) I8 rfl (.cons r8 .nil) ⟨_, ys, y, rfl, rfl, e8, z8, rfl⟩) fun _ s9 ⟨_, H9, I9, _, e9⟩ => ?_
        subst e9
        obtain ⟨J9, t9, f9⟩ := back I9
        exact ⟨m', hm, i + 1, some x5, _, _, J9, t9, f9, w8⟩
  have e4 : ∀ t' : Nat, ({ s2 with heap := h₁, toks := t' } : Shared) = { sB with heap := h₁, toks := t' } := fun t' => by rw [← hsB]
  exact codeAny_compStart_list (loop _ ⟨_, e4 _⟩) (T.self X.A 0 _ _ _ st1 (loop _ ⟨_, e4 _⟩))
theorem comp_closure (S : CompOk X scope x js L) {pins : List (Addr × Obj)} {s : Shared} {σ : St} {H : Hp} (I : Inv X pins σ H s) :
    ∃ cl, closureFor scope X.env = pure cl ∧ (∀ n c, cl.lookup n = some c → X.env.cells.lookup n = some c) ∧ ∀ y ∈ scope.names, y.2 = .free → ∃ c, cl.lookup y.1 = some c :=
  closure_all fun y hy hf => I.ok.has y.1 (S.up y hy hf)
/-- [elt for x in iter], as a value -/
theorem pe_comp (hc : X.calm = true) (hi : PI X (.Name x px) iter wi) (S : CompOk X scope x js L) (hif : ∀ b, PIfs (X.blk scope x L b) ifs tt) (helt : ∀ b, PE (X.blk scope x L b) elt te)
    (hs : ∀ x, foldedSetIterable iter X.env x = pure x := by intro _; rfl) :
    PE X (.ListComp elt [⟨.Name x px, iter, ifs, 0⟩] scope pos) (tComp wi js tt te) := by
  intro pins s σ H Q I h
  obtain ⟨cl, hcl, h2, h3⟩ := comp_closure S I
  rw [eval_ListComp]
  refine wpAny_comprehension_free (use := none) rfl hs hcl S.kind S.names (comp_core (RR := fun acc C => compPost (model X.prog X.w) X.A X.xe none (EP X pins σ Q) acc C) hc hi S hif helt I h h2 h3 ?_)
  intro p C s' H' m I' hn hC hL hz hcl' hpin q
  exact ⟨m, hn, fun h' hs' => ⟨.ref p, H', I'.turned (t' := s'.toks) (fun a o ha e => (hs'.2 a ha).trans e) hC hL (.inr hz) hcl' hpin, rfl, q⟩⟩
end
theorem iteA {σ : St} {H : Hp} {A B : Hp → Prop} (h : A H) : tAll σ H fun b H2 => if b = true then A H2 else B H2 := by
  show if true = true then A H else B H
  exact iteT h
/-! ### the forms one uses -/
/-- over a list that stays -/
theorem comp_list {K : PySem.W.Frag} {a : Addr} {xs : List V} {js : List Nat} {tt : TT} {te : TE} {σ : St} {H1 : Hp} {R : Hp → Prop} (p : Addr) (Pv : Nat → List V → Hp → Prop)
    (h0 : Pv 0 [] (upd H1 p (.lst []))) (hl : ∀ i ys H, i ≤ xs.length → Pv i ys H → SqL K H a xs ∧ H p = some (.lst ys))
    (hs : ∀ i x ys H, xs[i]? = some x → Pv i ys H → tt (stB σ (some x) js) H fun b H2 =>
      if b = true then te (stB σ (some x) js) H2 fun y H3 => H3 p = some (.lst ys) ∧ ys.length < sizeLine ∧ Pv (i + 1) (ys ++ [y]) (upd H3 p (.lst (ys ++ [y]))) else Pv (i + 1) ys H2)
    (hd : ∀ ys H, Pv xs.length ys H → R H) :
    ∃ W : Nat → Nat → List V → Hp → Prop, (∃ m, W 0 m [] (upd H1 p (.lst []))) ∧ ∀ i m ys H, W i m ys H → H p = some (.lst ys) ∧
      (((Itl K a).stop i H ∧ R H) ∨ ((Itl K a).go i H ∧ ∃ N : List V → Hp → Prop, (∀ ys' H', N ys' H' → ∃ m', m' < m ∧ W (i + 1) m' ys' H') ∧ ∀ x H', (Itl K a).yld i H x H' → tt (stB σ (some x) js) H' fun b H2 =>
        if b = true then te (stB σ (some x) js) H2 fun y H3 => H3 p = some (.lst ys) ∧ ys.length < sizeLine ∧ N (ys ++ [y]) (upd H3 p (.lst (ys ++ [y]))) else N ys H2)) := by
  refine ⟨fun i m ys H => m = xs.length - i ∧ i ≤ xs.length ∧ Pv i ys H, ⟨xs.length, by simp, Nat.zero_le _, h0⟩, ?_⟩
  rintro i m ys H ⟨rfl, hi, pv⟩
  obtain ⟨q, e⟩ := hl i ys H hi pv
  refine ⟨e, ?_⟩
  by_cases hlt : i < xs.length
  · refine .inr ⟨⟨xs, xs[i], q, by simp [hlt]⟩, Pv (i + 1), fun ys' H' p' => ⟨xs.length - (i + 1), by omega, rfl, hlt, p'⟩, fun x H' y => ?_⟩
    obtain ⟨e', y⟩ := y
    subst e'
    exact hs i x ys _ (y xs q) pv
  · have e' : i = xs.length := by omega
    subst e'
    exact .inl ⟨⟨xs, q, Nat.le_refl _⟩, hd ys H pv⟩
end L2
namespace PySem
open Sem (wp)
namespace F
end F
section
variable {prog : Program} {w : World} {A : Around} {s : Shared} {R : Result → Shared → Prop}
variable {I : Addr} {fp wr : List Addr} {G : Array GenState → Array GenState → Prop} {n : Nat} {P : Nat → Value → Prop} {St : Nat → Shared → Prop}
end
section
variable {prog : Program} {w : World} {A : Around} {E : Value → Shared → Prop} {s : Shared}
variable {I : Addr} {fp wr : List Addr} {G : Array GenState → Array GenState → Prop} {n : Nat} {P : Nat → Value → Prop} {St : Nat → Shared → Prop}
end
end PySem
namespace L2
open PySem PySem.Spec PyProof.Rows
theorem bt_list : bootBuiltins "list" = some (.type "list") := by decide +kernel
theorem bt_int : bootBuiltins "int" = some (.type "int") := by decide +kernel
theorem bt_bool : bootBuiltins "bool" = some (.type "bool") := by decide +kernel
theorem bt_isinstance : bootBuiltins "isinstance" = some (.builtin "isinstance") := by decide +kernel
theorem bt_all : bootBuiltins "all" = some (.builtin "all") := by decide +kernel
theorem bt_max : bootBuiltins "max" = some (.builtin "max") := by decide +kernel
theorem bt_len : bootBuiltins "len" = some (.builtin "len") := by decide +kernel
section
variable {X : Cx} {e : Expr} {te : TE}
/-! ### all([bools]) -/
theorem call_allB (hc : X.calm = true) : CallR X (.builtin "all") (fun xs H Q => ∃ (p : Addr) (bs : List Bool), xs = [.ref p] ∧ SqL X.K H p (bs.map V.bl) ∧ Q (.bl (bs.all id)) H) := by
  intro pins s σ H xs us Q I r h
  obtain ⟨p, bs, rfl, hq, q⟩ := h
  obtain ⟨u, rfl, rx⟩ := vals1 r
  cases rx
  obtain ⟨its, r', pl, hz⟩ := I.list hq
  have hlen := r'.length
  rw [List.length_map] at hlen
  have hh : X.A.in1.handled = none := I.ok.hd hc
  have hpl : p < s.heap.objs.size := by obtain ⟨o, ho, _⟩ := pl.isList; exact Heap.lt_size ho
  refine call_all_walk (wpAny_pyIter_list pl.isList ?_)
  refine ⟨s.heap.objs.size, _, _, its.toArray.size, _, _, fun i => bs.getD i false, rfl, Walks.list hh s.heap.objs.size p (Nat.ne_of_lt hpl) its.toArray, ⟨⟨_, Heap.get?_push_size _ rfl, rfl, rfl⟩, pl.isList.push _⟩, ?_, fun h' tk hk => ?_⟩
  · intro i v s' Q' E' hv hQ'
    have hv' : its[i]? = some v := by simpa using hv
    have hi : i < its.length := (List.getElem?_eq_some_iff.mp hv').1
    obtain ⟨u', hu', ru⟩ := r'.get (i := i) (x := V.bl (bs.getD i false)) (by rw [List.getElem?_map, List.getElem?_eq_getElem (by omega)]; simp [List.getD, List.getElem?_eq_getElem (show i < bs.length by omega)])
    rw [hv'] at hu'
    cases hu'
    cases (show v = Value.bool (bs.getD i false) from ru)
    exact wpAny_truthy_bool hQ'
  · have e1 : (List.range its.toArray.size).all (fun i => bs.getD i false) = bs.all id := by
      rw [List.size_toArray, ← hlen, Bool.eq_iff_iff, List.all_eq_true, List.all_eq_true]
      constructor
      · intro hx b hb
        obtain ⟨i, hi, rfl⟩ := List.mem_iff_getElem.mp hb
        have := hx i (by simpa using hi)
        simpa [List.getD, List.getElem?_eq_getElem hi] using this
      · intro hx i hi
        have hi' : i < bs.length := by simpa using hi
        have := hx bs[i] (List.getElem_mem hi')
        simpa [List.getD, List.getElem?_eq_getElem hi'] using this
    rw [e1]
    have I1 : Inv X pins σ H { s with heap := s.heap.push { cls := .type "list_iterator", data := .fields #[.ref p, .int 0 0] }, toks := s.toks } := I.kept (t' := s.toks) fun b o e => Heap.get?_push_of_some _ e
    refine ⟨.bl _, H, I1.turned (it := s.heap.objs.size) (t' := tk) (fun b o hb e => hk b o (by simpa using hb) e) I.fresh (Ne.symm (Nat.ne_of_lt I.lt)) (.inr I.sz) (fun y c e => ?_) (fun pp hp => ?_), rfl, q⟩
    · obtain ⟨v, o, ho, _⟩ := I.cell y c e
      exact Nat.ne_of_lt (Heap.lt_size ho)
    · exact Nat.ne_of_lt (Heap.lt_size (I.pin pp hp).1)
/-! ### isinstance -/
theorem call_isinst : CallR X (.builtin "isinstance") (fun xs H Q => ∃ x y t c b, xs = [x, y] ∧ TyOf X.K H x t ∧ y = .ty c ∧ PySem.W.kitOne X.K t (.type c) = some b ∧ Q (.bl b) H) := by
  intro pins s σ H xs us Q I r h
  obtain ⟨x, y, t, c, b, rfl, ty, rfl, hk, q⟩ := h
  obtain ⟨u, v, rfl, rx, ry⟩ := vals2 r
  cases (show v = Value.type c from ry)
  exact isinst_ok I rx ty hk fun tk => ⟨.bl b, H, I.tok tk, rfl, q⟩
/-! ### == and != of lists of ints -/
/-! ### is True, is not True -/
end
end L2
namespace L2
open PySem PySem.Spec PyProof.Rows
/-- the built-in names that the module leaves as they are -/
structure Bts (mg : Str → Option Value) : Prop where
  len : mg "len" = none
  list : mg "list" = none
  reversed : mg "reversed" = none
  range : mg "range" = none
  isinstance : mg "isinstance" = none
  all : mg "all" = none
  min : mg "min" = none
  max : mg "max" = none
  int : mg "int" = none
  bool : mg "bool" = none
  tuple : mg "tuple" = none
  str : mg "str" = none
theorem bts_mk {K : PySem.W.Frag} {h : Heap} {mg : Str → Option Value} (X : K.In h) (G : h.Ns mainGlobals mg) (z1 : PySem.W.nsIn K mainGlobals "len" = some none) (z2 : PySem.W.nsIn K mainGlobals "list" = some none) (z3 : PySem.W.nsIn K mainGlobals "reversed" = some none)
    (z4 : PySem.W.nsIn K mainGlobals "range" = some none) (z5 : PySem.W.nsIn K mainGlobals "isinstance" = some none) (z6 : PySem.W.nsIn K mainGlobals "all" = some none) (z7 : PySem.W.nsIn K mainGlobals "min" = some none) (z8 : PySem.W.nsIn K mainGlobals "max" = some none)
    (z9 : PySem.W.nsIn K mainGlobals "int" = some none) (z10 : PySem.W.nsIn K mainGlobals "bool" = some none) (z11 : PySem.W.nsIn K mainGlobals "tuple" = some none) (z12 : PySem.W.nsIn K mainGlobals "str" = some none) : Bts mg :=
  ⟨PySem.W.mg_none_of X G z1, PySem.W.mg_none_of X G z2, PySem.W.mg_none_of X G z3, PySem.W.mg_none_of X G z4, PySem.W.mg_none_of X G z5, PySem.W.mg_none_of X G z6, PySem.W.mg_none_of X G z7, PySem.W.mg_none_of X G z8, PySem.W.mg_none_of X G z9, PySem.W.mg_none_of X G z10, PySem.W.mg_none_of X G z11, PySem.W.mg_none_of X G z12⟩
/-- the name x is a def that keeps the promise sp, with k calls -/
structure Cal (P : Program) (w : World) (K : PySem.W.Frag) (mg : Str → Option Value) (base : Heap) (k : Nat) (x : Str) (ps : List Str) (sp : Sp) : Prop where
  ex : ∃ f fd, FnOk P w K mg base CX0 k f fd ps sp ∧ Binds K fd ps [] ∧ PySem.W.keepIn K (.ref f) = true ∧ mg x = some (.ref f)
/-- the name x is the def st of the text -/
structure Def (K : PySem.W.Frag) (mg : Str → Option Value) (x : Str) (ps : List Str) (st : Stmt) : Prop where
  ex : ∃ f fd, Fun K x x st f fd ∧ Binds K fd ps [] ∧ mg x = some (.ref f)
section
variable {P : Program} {w : World} {K : PySem.W.Frag} {mg : Str → Option Value} {base : Heap}
theorem Cal.mono {j k : Nat} {x : Str} {ps : List Str} {sp : Sp} (C : Cal P w K mg base j x ps sp) (h : j ≤ k) : Cal P w K mg base k x ps sp := by
  obtain ⟨f, fd, F, r⟩ := C.ex
  exact ⟨f, fd, F.mono h, r⟩
theorem Cal.imp {k : Nat} {x : Str} {ps : List Str} {sp sp' : Sp} (C : Cal P w K mg base k x ps sp) (h : ∀ vs H Q E, sp' vs H Q E → sp vs H Q E) : Cal P w K mg base k x ps sp' := by
  obtain ⟨f, fd, F, r⟩ := C.ex
  exact ⟨f, fd, F.imp h, r⟩
theorem Def.cal {x : Str} {st : Stmt} {N ps : List Str} {k : Nat} {sp : Sp} (D : Def K mg x ps st) (S : FnScope N ps (defScope st)) (len : ∀ vs H Q E, sp vs H Q E → vs.length = ps.length)
    (hbody : ∀ (f : Addr) (cdv : Value) (A : Around) (outer : List Env) (s : Shared) (H : Hp) (vs : List V) (Q : VK) (E : XK), Room k (A.deeper (envOfC x (defScope st) s.heap.objs.size f cdv)) → sp vs H Q E →
      ∃ t, PSs (cxOf CX0 P w K mg base N x (defScope st) f cdv A outer s H E).nox (defBody st) t ∧ t { nx := fun _ H' => Q .non H', rt := Q } (start N vs) H) : Cal P w K mg base (k + 1) x ps sp := by
  obtain ⟨f, fd, F, b, m⟩ := D.ex
  exact ⟨f, fd, F.ok S len (hbody f), b, F.kp, m⟩
theorem def_mk {h : Heap} {x : Str} {ps : List Str} {st : Stmt} {f : Addr} {oc : Value} {od an : Option Addr} {osl : Array (Option Value)} {kV doc pm cdv ct : Value} (X : K.In h) (G : h.Ns mainGlobals mg)
    (hb : ∀ (kV doc pm : Value) (an : Option Addr) (cdv ct : Value) (us : List Value), us.length = ps.length → bindArgs (PySem.W.fnOf x x (defArgs st) (defBody st) (defScope st) .none kV doc pm an cdv ct) ⟨us, []⟩ = pure (ps.zip us))
    (a : PySem.W.nsIn K mainGlobals x = some (some (.ref f))) (l : K.lookup f = some ⟨oc, od, .func (PySem.W.fnOf x x (defArgs st) (defBody st) (defScope st) .none kV doc pm an cdv ct), osl⟩)
    (c : PySem.W.codeIn K cdv x = true) (k : PySem.W.keepIn K (.ref f) = true) : Def K mg x ps st := by
  have F := fun_mk (st := st) l c k
  exact ⟨f, _, F, F.binds hb, PySem.W.mg_of X G a⟩
end
section
variable {X : Cx} {k : Nat} {x : Str} {ps : List Str} {sp : Sp} {p pos : Pos} {e : Expr} {es : List Expr} {t : TA}
theorem pe_callC (C : Cal X.prog X.w X.K X.mg X.base k x ps sp) (hr : Room k X.A) (hg : Gl X x) (ha : PA X (e :: es) t) (hdb : (x == ("__debug__" : Str)) = false := by decide)
    (he : starEach (e :: es) X.env = (false, eval e X.env) :: starEach es X.env := by rfl) (hpl : (backTo pos (starEach es X.env)).any (·.1) = false := by rfl) :
    PE X (.Call (.Name x p) (e :: es) [] pos) (tCall sp [] E0 t) := by
  obtain ⟨f, fd, F, b, kp, m⟩ := C.ex
  exact pe_call F hr hg m kp b .nil pass0 ha hdb he hpl
end
theorem same_new {H : Hp} {p : Addr} (h : H p = none) (o : HO) : Same H (upd H p o) := fun b u q => by rw [upd_ne (ne_of_none q h)]; exact q
theorem small {n : Nat} (h : n ≤ 100000) : n ≤ sizeLine := Nat.le_trans h (by decide)
theorem smalls {xs : List V} (h : Nat.ble xs.length 100000 = true := by rfl) : xs.length ≤ sizeLine := small (Nat.le_of_ble_eq_true h)
theorem smallT {n : Nat} (h : n ≤ 100000) : n < sizeLine := Nat.lt_of_le_of_lt h (by decide)
/-- all that was tracked in H but p is as it was -/
theorem Same.upd {H H' : Hp} {p : Addr} {o : HO} (s : Same H H') (h : H p = none) : Same H (upd H' p o) := fun b u q => by rw [upd_ne (ne_of_none q h)]; exact s b u q
/-! ### an argument that is no star, by its kind -/
section
variable {es : List Expr} {env : Env}
theorem star_Name {x pos} : starEach (.Name x pos :: es) env = (false, eval (.Name x pos) env) :: starEach es env := rfl
theorem star_Constant {c k pos} : starEach (.Constant c k pos :: es) env = (false, eval (.Constant c k pos) env) :: starEach es env := rfl
theorem star_Call {f a k pos} : starEach (.Call f a k pos :: es) env = (false, eval (.Call f a k pos) env) :: starEach es env := rfl
theorem star_BinOp {a o b pos} : starEach (.BinOp a o b pos :: es) env = (false, eval (.BinOp a o b pos) env) :: starEach es env := rfl
theorem star_Subscript {a b pos} : starEach (.Subscript a b pos :: es) env = (false, eval (.Subscript a b pos) env) :: starEach es env := rfl
theorem star_List {a pos} : starEach (.List a pos :: es) env = (false, eval (.List a pos) env) :: starEach es env := rfl
theorem star_ListComp {a g sc pos} : starEach (.ListComp a g sc pos :: es) env = (false, eval (.ListComp a g sc pos) env) :: starEach es env := rfl
end
/-! ### the same rules within a comprehension's block -/
section
variable {X : Cx} {scope : Scope} {x : Str} {L : List Str} {b : Blk}
theorem ix_listB : IxR (X.blk scope x L b) (rIxL X.K) := ix_list
end
end L2
namespace PySem
open Sem (wp)
namespace F
end F
section
variable {prog : Program} {w : World} {A : Around} {E : Value → Shared → Prop} {s : Shared}
end
end PySem
namespace L2
open PySem PySem.Spec PyProof.Rows
section
variable {X : Cx} {tg : Expr}
end
/-! ### == and != of equal data, of any depth -/
inductive Deq (K : PySem.W.Frag) (H : Hp) : Nat → V → V → Prop where
  | flat {n : Nat} {v : V} (h : flatV v = true) : Deq K H n v v
  | lst {n : Nat} {a b : Addr} {xs ys : List V} (ha : SqL K H a xs) (hb : SqL K H b ys) (hl : xs.length = ys.length) (h : ∀ (i : Nat) (x y : V), xs[i]? = some x → ys[i]? = some y → Deq K H n x y) : Deq K H (n + 1) (.ref a) (.ref b)
  | tup {n : Nat} {a b : Addr} {xs ys : List V} (ha : SqT K H a xs) (hb : SqT K H b ys) (hl : xs.length = ys.length) (h : ∀ (i : Nat) (x y : V), xs[i]? = some x → ys[i]? = some y → Deq K H n x y) : Deq K H (n + 1) (.ref a) (.ref b)
theorem eqV_self {v : V} (h : flatV v = true) : eqV v v = true := by
  cases v <;> first | (simp [eqV]; done) | (simp [flatV] at h)
section
variable {X : Cx}
theorem items_eq {pins : List (Addr × Obj)} {σ : St} {H : Hp} {s : Shared} {A : Around} {n : Nat} {xs ys : List V} {us vs : List Value} (r1 : Vals xs us) (r2 : Vals ys vs) (hl : xs.length = ys.length)
    (h : ∀ (i : Nat) (x y : V), xs[i]? = some x → ys[i]? = some y → ∀ (u v : Value), RelV x u → RelV y v → SeqAt.EqAt A s u v true) : ∀ j (h1 : j < us.toArray.size) (h2 : j < vs.toArray.size), SeqAt.EqAt A s us.toArray[j] vs.toArray[j] ((fun _ => true) j) := by
  intro j h1 h2
  have l1 := r1.length
  have l2 := r2.length
  have j1 : j < us.length := by simpa using h1
  have j2 : j < vs.length := by simpa using h2
  obtain ⟨u, hu, ru⟩ := r1.get (i := j) (x := xs[j]'(by omega)) (List.getElem?_eq_getElem _)
  obtain ⟨v, hv, rv⟩ := r2.get (i := j) (x := ys[j]'(by omega)) (List.getElem?_eq_getElem _)
  rw [List.getElem?_eq_getElem j1] at hu
  rw [List.getElem?_eq_getElem j2] at hv
  cases hu
  cases hv
  simpa using h j _ _ (List.getElem?_eq_getElem _) (List.getElem?_eq_getElem _) _ _ ru rv
theorem all_true (n : Nat) : (List.range n).all (fun _ => true) = true := by simp
theorem Deq.at {pins : List (Addr × Obj)} {σ : St} {H : Hp} {s : Shared} (I : Inv X pins σ H s) {n : Nat} {x y : V} (d : Deq X.K H n x y) : ∀ (A : Around) (u v : Value), RelV x u → RelV y v → A.units + n < cLine → SeqAt.EqAt A s u v true := by
  induction d with
  | flat h =>
    intro A u v ru rv _
    have := eqAt_V (A := A) (s := s) ru rv h h
    rwa [eqV_self h] at this
  | @lst n a b xs ys ha hb hl h ih =>
    intro A u v ru rv hu
    cases ru
    cases rv
    by_cases e : a = b
    · subst e; exact SeqAt.EqAt.same _
    obtain ⟨its, r, pl, _⟩ := I.list ha
    obtain ⟨its2, r2, pl2, _⟩ := I.list hb
    have l1 := r.length
    have l2 := r2.length
    have q := SeqAt.RcAt.lists (A := A) (s := s) (e := fun _ => true) pl.isList pl2.isList (by simp; omega) (by omega) (items_eq (pins := pins) (σ := σ) (H := H) (n := n) r r2 hl fun i x y hx hy u v ru rv => ih i x y hx hy _ u v ru rv (by rw [PyProof.Rows.units_in1]; omega))
    rw [all_true] at q
    exact SeqAt.EqAt.of_refs e q
  | @tup n a b xs ys ha hb hl h ih =>
    intro A u v ru rv hu
    cases ru
    cases rv
    by_cases e : a = b
    · subst e; exact SeqAt.EqAt.same _
    obtain ⟨its, r, pl, _⟩ := I.tuple ha
    obtain ⟨its2, r2, pl2, _⟩ := I.tuple hb
    have l1 := r.length
    have l2 := r2.length
    have q := SeqAt.RcAt.tuples (A := A) (s := s) (e := fun _ => true) (show s.heap.IsTuple a its.toArray from pl) (show s.heap.IsTuple b its2.toArray from pl2) (by omega) (items_eq (pins := pins) (σ := σ) (H := H) (n := n) r r2 hl fun i x y hx hy u v ru rv => ih i x y hx hy _ u v ru rv (by rw [PyProof.Rows.units_in1]; omega))
    rw [all_true, show (its.toArray.size == its2.toArray.size) = true by simp; omega] at q
    exact SeqAt.EqAt.of_refs e q
end
end L2
namespace L2
open PySem PySem.Spec PyProof.Rows
section
variable {X : Cx}
end
end L2
namespace L2
open PySem PySem.Spec PyProof.Rows
section
variable {X : Cx}
/-! ### count and index among flat items; products of great numbers -/
end
end L2
/-! ### exceptions of the text's own classes: their class asked -/
namespace PySem.W
open PySem PySem.Spec PySem.Calls PyProof.Rows Builtin Builtin.ObjectAttr Builtin.Getset_descriptor
/-- an object of the own class C -/
def ClsAt (h : Heap) (x C : Addr) : Prop := ∃ o, h.get? x = some o ∧ o.cls = .ref C
theorem ClsAt.type {M : Model} {h : Heap} {x C : Addr} (I : ClsAt h x C) : Looks M h (typeOf (.ref x)) (.ref C) := by
  obtain ⟨o, e, c⟩ := I
  exact c ▸ (Looks.ld e).andThen .now
theorem ClsAt.find {K : Frag} {M : Model} {h : Heap} {x C : Addr} {name : Str} {a g : Value} (X : K.In h) (ha : findIn K (.ref C) name = some (some a)) (hg : specialIn K a "__get__" = some (some g)) (ht : takesIn K a = some true) : Looks M h (Builtin.ObjectAttr.find (.ref x) (.ref C) name) (Found.bind g a) := by
  have L1 := looks_findIn (M := M) X ha
  have L2 : Looks M h (getOf (some a)) (some g) := looks_specialIn X hg
  have L3 := looks_takesIn (M := M) X ht
  exact L1.andThen (L2.andThen ((show Looks M h (dataDescriptor? (some a) (some g)) (some (g, a)) from L3.andThen .now).andThen (Looks.tag .now)))
section
variable {prog : Program} {w : World} {A : Around} {E : Value → Shared → Prop} {s : Shared} {K : Frag} {x C : Addr} {name : Str}
theorem ClsAt.check {nameV : Value} {Q : Unit → Shared → Prop} (X : K.In s.heap) (I : ClsAt s.heap x C) (hb : mroIn K C (.type "BaseException") = some true) (hq : Q () s) :
    wpAny (model prog w) A (checkBuiltinCall "BaseException.__getattribute__" ⟨[.ref x, nameV], []⟩) Q E s := by
  obtain ⟨hh, g, dr, t, os⟩ := s
  have L0 := I.type (M := model prog w)
  have L1 := looks_mroIn (M := model prog w) X hb
  have hk : builtinKind "BaseException.__getattribute__" = some .slot := by decide +kernel
  have hsplit : splitId "BaseException.__getattribute__" = some ("BaseException", "__getattribute__") := by decide +kernel
  have ha := F.args_bexc_ga (.ref x) nameV
  simp only [checkBuiltinCall, hk, hsplit]
  refine wpAny_bind ?_
  unfold isInstance
  repeat (first | with_reducible refine wpAny_bind (L0.at ?_) | with_reducible refine wpAny_bind (L1.at ?_) | with_reducible refine L1.at ?_ | wp_step)
  exact hq
theorem ClsAt.asked {Q : Option Value → Shared → Prop} {g a : Value} (X : K.In s.heap) (I : ClsAt s.heap x C) (hga : findIn K (.ref C) "__getattribute__" = some (some (.builtin "BaseException.__getattribute__")))
    (hk : findIn K (.ref C) "__getattr__" = some none) (hb : mroIn K C (.type "BaseException") = some true) (ha : findIn K (.ref C) name = some (some a)) (hg : specialIn K a "__get__" = some (some g)) (ht : takesIn K a = some true)
    (h : ∀ A' : Around, codeAny (model prog w) A' (.call g ⟨[a, .ref x, .ref C], []⟩) (wants (fun v s' => handedIn v = true ∧ Q (some v) s') fun _ _ => False) { s with toks := s.toks + 1 }) :
    wpAny (model prog w) A (getAttr? (.ref x) name) Q E s := by
  obtain ⟨hh, gn, d, t, os⟩ := s
  have L0 := I.type (M := model prog w)
  have L1 := looks_findIn (M := model prog w) X hga
  have L2 := ClsAt.find (M := model prog w) (x := x) X ha hg ht
  have L3 := looks_findIn (M := model prog w) X hk
  have f3 := F.excAttr_ValueError.ga.bind (.ref x)
  have hx2 : (Value.builtin "BaseException.__getattribute__" == Value.builtin "object.__getattribute__") = false := by decide +kernel
  have hx1 : ¬ ((onTheHeap (Value.ref C) && Value.builtin "BaseException.__getattribute__" == Value.builtin "object.__getattribute__") = true) := by rw [hx2, Bool.and_false]; exact Bool.false_ne_true
  unfold getAttr? getAttrBy? getAttrBy
  refine wpAny_bind (wpAny_mkText (wpAny_bind (wpAny_attempt (wpAny_holding (wpAny_bind (L0.at (wpAny_bind (L1.at ?_))))))))
  dsimp only
  rw [if_neg hx1]
  unfold getAttrByItsOwn hookBefore
  refine wpAny_bind ?_
  rw [if_pos (show onTheHeap (Value.ref C) = true from rfl)]
  refine L3.at ?_
  refine wpAny_bind (wpAny_attempt (wpAny_holding ?_))
  unfold callGetattribute
  rw [if_neg (show ¬ ((false && onTheHeap (Value.builtin "BaseException.__getattribute__")) = true) from Bool.false_ne_true)]
  unfold boundAndCalled
  refine wpAny_bind (wpAny_of_eq f3 ?_)
  refine wpAny_call (codeAny_call_builtin F.excAttr_ValueError.ga.plain F.entry_bexc_ga (ClsAt.check (s := ⟨hh, gn, d, t + 1, os⟩) X I hb ?_))
  unfold Builtin.«object.__getattribute__»
  refine wpAny_bind (wpAny_of_eq (a := (Value.ref x, [Value.str name t])) rfl ?_)
  dsimp only
  refine wpAny_bind (wpAny_of_eq (a := name) rfl ?_)
  refine wpAny_bind (L0.at (wpAny_bind (L2.at ?_)))
  dsimp only
  unfold bindTo
  dsimp only
  refine wpAny_bind (wpAny_holding (wpAny_call (codeAny_mono (h _) fun r s' hr => ?_)))
  cases r with
  | error e => exact hr.elim
  | ok fl =>
    cases fl with
    | ret v =>
      obtain ⟨h1, h2⟩ := hr
      exact wpAny_pure (handed_on h1 (wpAny_pure h2))
    | next => exact hr.elim
    | brk => exact hr.elim
    | cont => exact hr.elim
end
/-- what is asked of an own exception class -/
structure ExcCls (K : Frag) (C : Addr) : Prop where
  cl : ∃ cd, clsIn K C = some cd
  ga : findIn K (.ref C) "__getattribute__" = some (some (.builtin "BaseException.__getattribute__"))
  mb : mroIn K C (.type "BaseException") = some true
  gn : findIn K (.ref C) "__getattr__" = some none
  ha : findIn K (.ref C) "__class__" = some (some (.builtin "object.__class__"))
  hn : specialIn K (.builtin "object.__class__") "__get__" = some (some (.builtin "getset_descriptor.__get__"))
  tk : takesIn K (.builtin "object.__class__") = some true
  mo : mroIn K C (.type "object") = some true
end PySem.W
/-! ### an exception that flies: made, passed on, caught -/
namespace L2
open PySem PySem.Spec PyProof.Rows
section
variable {P : Program} {w : World} {H H' H₀ : Hp} {h h' h₀ : Heap} {a : Addr} {o : HO}
theorem ObjOk.there (x : ObjOk P w H h a o) : ∃ ob, h.get? a = some ob := by
  cases o with
  | lst xs => obtain ⟨_, _, _, _, e⟩ := x; exact ⟨_, e⟩
  | tup xs => obtain ⟨_, _, _, ob, e, _⟩ := x; exact ⟨_, e⟩
  | dK kvs => obtain ⟨_, _, _, _, o, _, _, e, _⟩ := x; exact ⟨_, e⟩
  | dT kvs => obtain ⟨_, _, _, _, o, _, _, e, _⟩ := x; exact ⟨_, e⟩
  | set S n => obtain ⟨o, _, _, _, e, _⟩ := x; exact ⟨_, e⟩
  | ins C dx fs => obtain ⟨_, _, _, e, _⟩ := x; exact ⟨_, e⟩
  | own y => obtain ⟨_, e⟩ := x; exact ⟨_, e⟩
  | xd fs => obtain ⟨_, ⟨_, _, _, e, _⟩, _⟩ := x; exact ⟨_, e⟩
  | rng lo hi => obtain ⟨_, _, _, e⟩ := x; exact ⟨_, e⟩
  | frz ob u => obtain ⟨e, _⟩ := x; exact ⟨_, e⟩
  | tbl ps => exact ⟨_, (show h.get? a = some _ from x)⟩
  | met f y => exact ⟨_, (show h.get? a = some _ from x)⟩
  | ext φ => obtain ⟨_, ⟨_, e⟩, _⟩ := x; exact ⟨_, e⟩
/-- the exception x of the class C flies over the frames l: B is all that stands but the frames, x and its records; H₀, h₀: the state ahead -/
structure Fly (P : Program) (w : World) (l : List Env) (H₀ : Hp) (h₀ : Heap) (H' : Hp) (x C : Addr) (B h' : Heap) : Prop where
  fl : ∃ a0, Heap.FlyingW B l x (.ref C) a0 h'
  ok : HOk P w H' B
  kB : ∀ b o, h₀.get? b = some o → H₀ b = none → b ∉ frs l → B.get? b = some o
  sl : ∀ b o, h₀.get? b = some o → H₀ b = none → b ∈ frs l → ∃ sl, h'.get? b = some { o with slots := sl }
  fr : ∀ b o, h₀.get? b = some o → H₀ b = none → H' b = none
  sm : Same H₀ H'
variable {l : List Env} {x C : Addr} {B h'' : Heap}
theorem Fly.stays (F : Fly P w l H₀ h₀ H' x C B h') : ∀ b o, B.get? b = some o → h'.get? b = some o := by
  obtain ⟨a0, f, _⟩ := F.fl
  exact f
theorem Fly.hok (F : Fly P w l H₀ h₀ H' x C B h') : HOk P w H' h' := F.ok.kept F.stays
theorem Fly.un (F : Fly P w l H₀ h₀ H' x C B h') : Un (frs l) [] H₀ H' h₀ h' where
  keep := fun b o q n hb _ => F.stays b o (F.kB b o q n hb)
  slot := fun b o q n hb _ => F.sl b o q n hb
  free := fun b o q n _ => F.fr b o q n
  there := fun b o q _ => by
    cases e : H₀ b with
    | none =>
      by_cases hb : b ∈ frs l
      · obtain ⟨sl, z⟩ := F.sl b o q e hb
        exact ⟨_, z⟩
      · exact ⟨_, F.stays b o (F.kB b o q e hb)⟩
    | some u =>
      obtain ⟨ob, z⟩ := (F.ok b u (F.sm b u e)).there
      exact ⟨ob, F.stays b ob z⟩
  tups := fun b xs q => F.sm _ _ q
  frzs := fun b o u q => F.sm _ _ q
  tbls := fun b ps q => ⟨#[], by rw [F.sm _ _ q]; simp⟩
theorem Fly.untracked (F : Fly P w l H₀ h₀ H' x C B h') : H' x = none := by
  obtain ⟨a0, _, hx, _⟩ := F.fl
  cases e : H' x with
  | none => rfl
  | some u =>
    obtain ⟨ob, z⟩ := (F.ok x u e).there
    rw [hx] at z
    cases z
theorem Fly.cls (F : Fly P w l H₀ h₀ H' x C B h') : PySem.W.ClsAt h' x C := by
  obtain ⟨a0, _, _, _, oe, _, _, _, _, he, hc, _⟩ := F.fl
  exact ⟨oe, he, hc.1⟩
theorem Fly.fields (F : Fly P w l H₀ h₀ H' x C B h') : ∃ oe vs, h'.get? x = some oe ∧ oe.data = .fields vs := by
  obtain ⟨a0, _, _, _, oe, vs, _, _, _, he, _, hd, _⟩ := F.fl
  exact ⟨oe, vs, he, hd⟩
theorem Fly.step (F : Fly P w l H₀ h₀ H' x C B h') (fl : ∃ a0, Heap.FlyingW B l x (.ref C) a0 h'') (u : h'.UpToSlots h'') : Fly P w l H₀ h₀ H' x C B h'' where
  fl := fl
  ok := F.ok
  kB := F.kB
  sl := fun b o q n hb => by
    obtain ⟨sl, z⟩ := F.sl b o q n hb
    obtain ⟨a0, _, _, ff, _⟩ := F.fl
    obtain ⟨_, o', e', hd⟩ := ff.mem hb
    rw [z] at e'
    cases e'
    obtain ⟨sl', z'⟩ := u b _ z hd
    exact ⟨sl', z'⟩
  fr := F.fr
  sm := F.sm
end
/-- an exception behind a call -/
def CXE (P : Program) (w : World) : CXT := fun outer H s E e s' => ∃ (x C : Addr) (B : Heap) (H' : Hp), e = .ref x ∧ s'.os = s.os ∧ AllBare s'.gens ∧ Fly P w outer H s.heap H' x C B s'.heap ∧ E e (some C) H'
section
variable {X : Cx} {pins : List (Addr × Obj)} {σ : St} {H H' : Hp} {s s' : Shared} {M : Model} {E : Value → Shared → Prop} {x C : Addr} {B : Heap}
end
/-! ### raise C("..") -/
abbrev veMro : List Value := [.type "ValueError", .type "Exception", .type "BaseException", .type "object"]
/-! ### a def that may raise -/
/-- the name x is a def that keeps the promise sp, with k calls; an exception may leave it -/
structure CalX (P : Program) (w : World) (K : PySem.W.Frag) (mg : Str → Option Value) (base : Heap) (k : Nat) (x : Str) (ps : List Str) (sp : Sp) : Prop where
  ex : ∃ f fd, FnOk P w K mg base (CXE P w) k f fd ps sp ∧ Binds K fd ps [] ∧ PySem.W.keepIn K (.ref f) = true ∧ mg x = some (.ref f)
section
variable {P : Program} {w : World} {K : PySem.W.Frag} {mg : Str → Option Value} {base : Heap}
theorem CalX.mono {j k : Nat} {x : Str} {ps : List Str} {sp : Sp} (C : CalX P w K mg base j x ps sp) (h : j ≤ k) : CalX P w K mg base k x ps sp := by
  obtain ⟨f, fd, F, r⟩ := C.ex
  exact ⟨f, fd, F.mono h, r⟩
variable {N : List Str} {qual : Str} {scope : Scope} {f : Addr} {cdv : Value} {A : Around} {outer : List Env} {s : Shared} {H : Hp} {E : XK}
end
section
variable {X : Cx} {k : Nat} {x : Str} {ps : List Str} {sp : Sp} {p pos : Pos} {e : Expr} {es : List Expr} {t : TA} {E : XK}
end
end L2
/-! ### try .. except C as e -/
namespace L2
open PySem PySem.Spec PyProof.Rows
section
variable {X : Cx} {pins : List (Addr × Obj)} {σ : St} {H : Hp} {s : Shared}
/-- the suite of an except clause -/
abbrev Cx.suite (X : Cx) (x : Addr) : Cx := { X with A := X.A.mark (some (.ref x)), calm := false, xe := fun _ _ => False }
theorem Cx.Ok.suite (ok : X.Ok) (x : Addr) : (X.suite x).Ok :=
  ⟨ok.mod, ok.kind, ok.glob, ok.blt, ok.above, ok.inj, ok.has, ok.cab, (fun z => nomatch z), ok.frames, ok.stk, ok.exf, ok.bs, ok.bsz, ok.noex, ok.exfs, ok.funs, ok.frf⟩
theorem Inv.suite (I : Inv X pins σ H s) (x : Addr) : Inv (X.suite x) pins σ H s := ⟨I.ok.suite x, I.os, I.bare, I.base, I.loc, I.cell, I.free, I.freeC, I.pin, I.hok, I.len⟩
end
end L2
/-! ### defs called within an except clause's suite; defs whose body begins with a try -/
namespace L2
open PySem PySem.Spec PyProof.Rows
structure RoomU (k : Nat) (A : Around) : Prop where
  dp : A.depth + 3 * k + 5 < recursionLimit
  un : A.units + 16 * k + 200 < cLine
theorem Room.u {k : Nat} {A : Around} (r : Room k A) : RoomU k A := ⟨r.dp, r.un⟩
theorem RoomU.mark {k : Nat} {A : Around} (r : RoomU k A) (h : Option Value) : RoomU k (A.mark h) := ⟨r.dp, r.un⟩
theorem RoomU.mono {j k : Nat} {A : Around} (r : RoomU k A) (h : j ≤ k) : RoomU j A := ⟨by have := r.dp; omega, by have := r.un; omega⟩
theorem RoomU.deeper {k : Nat} {A : Around} (r : RoomU (k + 1) A) (env : Env) : RoomU k (A.deeper env) :=
  ⟨by have := r.dp; show A.depth + 1 + 3 * k + 5 < _; omega, by have := r.un; show A.units + 3 + 16 * k + 200 < _; omega⟩
structure FnOkU (P : Program) (w : World) (K : PySem.W.Frag) (mg : Str → Option Value) (base : Heap) (k : Nat) (f : Addr) (fd : FuncData) (ps : List Str) (sp : Sp) : Prop where
  len : ∀ vs H Q E, sp vs H Q E → vs.length = ps.length
  run : ∀ (A : Around) (outer : List Env) (s : Shared) (H : Hp) (args : Args) (us : List Value) (vs : List V) (Q : VK) (E : XK), RoomU k A → Env0 P w K mg base A outer s H → BindsTo s fd args (ps.zip us) → Vals vs us → sp vs H Q E →
    codeAny (model P w) A (.call (.ref f) args) (CR CX0 outer P w H s Q E) s
structure CalU (P : Program) (w : World) (K : PySem.W.Frag) (mg : Str → Option Value) (base : Heap) (k : Nat) (x : Str) (ps : List Str) (sp : Sp) : Prop where
  ex : ∃ f fd, FnOkU P w K mg base k f fd ps sp ∧ Binds K fd ps [] ∧ PySem.W.keepIn K (.ref f) = true ∧ mg x = some (.ref f)
def PSs0 (X : Cx) (sts : List Stmt) (t : TS) : Prop := ∀ (s : Shared) (σ : St) (H : Hp) (D : Ends), Inv X [] σ H s → t D σ H → wpAny (model X.prog X.w) X.A (execs sts X.env) (SP X [] D) X.xe s
theorem PSs.s0 {X : Cx} {sts : List Stmt} {t : TS} (h : PSs X sts t) : PSs0 X sts t := fun s σ H D I q => h [] s σ H D I q
theorem PSs0.nox {X : Cx} {sts : List Stmt} {t : TS} (h : PSs0 X.nox sts t) : PSs0 X sts t := fun s σ H D I hw =>
  wpAny_mono (h s σ H D (I.wish _) hw) (fun _ _ q => q.unwish) fun _ _ z => False.elim z
section
variable {P : Program} {w : World} {K : PySem.W.Frag} {mg : Str → Option Value} {base : Heap}
theorem CalU.mono {j k : Nat} {x : Str} {ps : List Str} {sp : Sp} (C : CalU P w K mg base j x ps sp) (h : j ≤ k) : CalU P w K mg base k x ps sp := by
  obtain ⟨f, fd, F, r⟩ := C.ex
  exact ⟨f, fd, ⟨F.len, fun A outer s H args us vs Q E hr => F.run A outer s H args us vs Q E (hr.mono h)⟩, r⟩
end
section
variable {X : Cx} {k : Nat} {x : Str} {ps : List Str} {sp : Sp} {p pos : Pos} {e : Expr} {es : List Expr} {t : TA}
end
end L2
namespace L2
open PySem PySem.Spec PyProof.Rows
/-- the name x is the own exception class at C -/
structure ExcN (K : PySem.W.Frag) (mg : Str → Option Value) (x : Str) (C : Addr) : Prop where
  m : mg x = some (.ref C)
  q : PySem.W.excIn K C veMro "ValueError.__new__" = true
  c : PySem.W.ExcCls K C
/-- the class C is the j-th of the five, and a ValueError -/
structure Kits (K : PySem.W.Frag) (c1 c2 c3 c4 c5 C : Addr) (j : Nat) : Prop where
  lt : j < 5
  k1 : PySem.W.kitOne K (.ref C) (.ref c1) = some (decide (j = 0))
  k2 : PySem.W.kitOne K (.ref C) (.ref c2) = some (decide (j = 1))
  k3 : PySem.W.kitOne K (.ref C) (.ref c3) = some (decide (j = 2))
  k4 : PySem.W.kitOne K (.ref C) (.ref c4) = some (decide (j = 3))
  k5 : PySem.W.kitOne K (.ref C) (.ref c5) = some (decide (j = 4))
  kv : PySem.W.kitOne K (.ref C) (.type "ValueError") = some true
end L2
/-! ### products of great numbers, list(dict), sorted(.., reverse=True), sum -/
namespace L2
open PySem PySem.Spec PyProof.Rows
theorem bt_sorted : bootBuiltins "sorted" = some (.builtin "sorted") := by decide +kernel
section
variable {X : Cx}
def CMulB (i j : Int) : Prop := (-(2 ^ 200) < i ∧ i < 2 ^ 200) ∧ (-(2 ^ 200) < j ∧ j < 2 ^ 200)
theorem CMulB.ok {i j : Int} (h : CMulB i j) : IntMulOk i j := by
  obtain ⟨⟨a, b⟩, c, d⟩ := h
  exact .of_bits (Nat.le_trans (PyProof.Rows.intBits_le (k := 200) (by omega)) (by decide)) (Nat.le_trans (PyProof.Rows.intBits_le (k := 200) (by omega)) (by decide))
theorem kv_key {kvs : List (Key × V)} {vs : List (Key × Value)} (r : KV kvs vs) : ∀ {i : Nat} {k : Key} {x : Value}, vs[i]? = some (k, x) → ∃ y, kvs[i]? = some (k, y) := by
  intro i
  induction r generalizing i with
  | nil => intro k x e; simp at e
  | @cons p q _ _ rr t ih =>
    intro k x e
    cases i with
    | zero =>
      simp at e
      refine ⟨p.2, ?_⟩
      rw [List.getElem?_cons_zero]
      congr 1
      obtain ⟨p1, p2⟩ := p
      have := rr.1
      simp at this
      rw [this, e]
    | succ i =>
      obtain ⟨y, hy⟩ := ih (i := i) (by simpa using e)
      exact ⟨y, by simpa using hy⟩
theorem key_relv {k : Key} {v : Value} (h : keyIs k v = true) : RelV (kV k) v := by
  rcases keyIs_shape h with ⟨i, t, rfl, rfl⟩ | ⟨x, t, rfl, rfl⟩
  · exact ⟨t, rfl⟩
  · exact ⟨t, rfl⟩
/-- list(d): the keys -/
theorem call_list_dict (hc : X.calm = true) : CallR X (.type "list") (fun xs H Q => ∃ (p : Addr) (kvs : List (Key × V)), xs = [.ref p] ∧ H p = some (.dK kvs) ∧ ∀ l, H l = none → Q (.ref l) (upd H l (.lst (kvs.map fun kv => kV kv.1)))) := by
  intro pins s σ H xs us Q I r h
  obtain ⟨p, kvs, rfl, hp, q⟩ := h
  obtain ⟨u, rfl, rx⟩ := vals1 r
  cases (show u = Value.ref p from rx)
  obtain ⟨hz, lo, vs, rv, hd⟩ : kvs.length ≤ sizeLine ∧ (p == sysModules) = false ∧ ∃ vs, KV kvs vs ∧ s.heap.DictOf (mixKind X.prog X.w) p vs := I.hok p _ hp
  obtain ⟨ep, hd'⟩ := hd.dictAt
  have hlen : kvs.length = vs.length := Paired.length rv
  have hh : X.A.handled = none := I.ok.hd hc
  refine PySem.W.kdl_call (PySem.W.kdl_dict (knd := mixKind X.prog X.w) (kvs := vs) (ep := ep) lo) hh hd' (by omega) fun h' tk acc' c' hk hS hacc => ?_
  have hv : Vals (kvs.map fun kv => kV kv.1) acc'.toList := by
    have hsz : acc'.size = kvs.length := by rw [hacc.1, hlen]
    have key : ∀ (n : Nat) (xs : List V) (ys : List Value), xs.length = n → ys.length = n → (∀ (i : Nat) (x : V), xs[i]? = some x → ∃ y, ys[i]? = some y ∧ RelV x y) → Vals xs ys := by
      intro n
      induction n with
      | zero => intro xs ys h1 h2 _; rw [List.length_eq_zero_iff.mp h1, List.length_eq_zero_iff.mp h2]; exact .nil
      | succ n ih =>
        intro xs ys h1 h2 h3
        cases xs with
        | nil => simp at h1
        | cons x xs =>
          cases ys with
          | nil => simp at h2
          | cons y ys =>
            obtain ⟨y', e, r'⟩ := h3 0 x rfl
            cases e
            exact .cons r' (ih xs ys (by simpa using h1) (by simpa using h2) fun i z hz => by
              obtain ⟨y2, e2, r2⟩ := h3 (i + 1) z (by simpa using hz)
              exact ⟨y2, by simpa using e2, r2⟩)
    refine key kvs.length _ _ (by simp) (by simpa using hsz) fun i x hx => ?_
    have hi : i < kvs.length := by
      have := (List.getElem?_eq_some_iff.mp hx).1
      simpa using this
    have hi' : i < acc'.size := by omega
    obtain ⟨k, y, e1, e2⟩ := hacc.2 i acc'[i] (Array.getElem?_eq_getElem hi')
    obtain ⟨z, e3⟩ := kv_key rv e1
    refine ⟨acc'[i], by rw [List.getElem?_eq_getElem (by simpa using hi')]; simp, ?_⟩
    rw [List.getElem?_map, e3] at hx
    cases hx
    exact key_relv e2
  have I2 : Inv X pins σ (upd H s.heap.objs.size (.lst (kvs.map fun kv => kV kv.1))) { s with heap := h', toks := tk } :=
    I.laid (t' := tk) (fun b o e => hk b o e) (Nat.le_refl _) (show ObjOk X.prog X.w _ _ _ (.lst (kvs.map fun kv => kV kv.1)) from ⟨by rw [List.length_map]; exact hz, acc'.toList, c', hv, by simpa using hS⟩)
  exact ⟨.ref s.heap.objs.size, _, I2, rfl, q _ I.fresh⟩
/-- sorted(e, reverse=True), e a list of fewer than 64 ints -/
def tSortR (K : PySem.W.Frag) (te : TE) : TE := fun σ H Q => te σ H fun x H1 => ∃ (a : Addr) (ns : List Int), x = .ref a ∧ SqL K H1 a (ns.map V.int) ∧ ns.length < 64 ∧ ∀ (l : Addr) (ms : List Int), H1 l = none → ms.Perm ns → ms.Pairwise (· ≥ ·) → Q (.ref l) (upd H1 l (.lst (ms.map V.int)))
theorem pe_sortedR {e : Expr} {te : TE} {p pos kp kpos : Pos} {kk} (hg : Gl X "sorted") (hm : X.mg "sorted" = none) (he : PE X e te) (hs : starEach [e] X.env = [(false, eval e X.env)] := by rfl) :
    PE X (.Call (.Name "sorted" p) [e] [⟨some "reverse", .Constant (.bool true) kk kp, kpos⟩] pos) (tSortR X.K te) := by
  intro pins s σ H Q I h
  refine wpAny_Call_Name_kw (ld_blt I hg hm bt_sorted (PyProof.Rows.callWith_kw ?_ (by rw [hs]; rfl) (by rw [hs]; rfl)) (by decide) (by decide))
  rw [hs]
  refine Calls.spliced_cons (thn (he pins s σ H _ I h) fun u s1 ⟨x, H1, I1, r1, a, ns, e1, hq, h64, q⟩ => Calls.spliced_nil ?_)
  subst e1
  cases r1
  refine PyProof.Rows.kws_cons (Constant_bool (PyProof.Rows.kws_nil ?_))
  obtain ⟨its, r', pl, hz⟩ := I1.list hq
  have hlen := r'.length
  rw [List.length_map] at hlen
  refine PyProof.Rows.sorted_ints_rev (b := true) pl.isList (intsAre_of r') (by omega) fun out ms hi hp ho => ?_
  obtain ⟨ee, hee⟩ := PyProof.Rows.sortedAll_at s1.heap its out
  have hfr : H1 (s1.heap.objs.size + 1) = none := I1.hok.fresh (Nat.le_succ _)
  have hml : ms.length = ns.length := hp.length_eq
  refine ⟨.ref (s1.heap.objs.size + 1), _, I1.laid (t' := s1.toks) (o := .lst (ms.map V.int)) (fun b o e => PyProof.Rows.sortedAll_old e) (Nat.le_succ _) ⟨by rw [List.length_map]; exact small (by omega), out.toList, ee, vals_ints hi, by simpa using hee⟩, rfl, q _ ms hfr hp ho⟩
end
end L2
namespace L2
open PySem PySem.Spec PyProof.Rows
/-- more of the built-in names that the module leaves as they are -/
structure Bts2 (mg : Str → Option Value) : Prop where
  sorted : mg "sorted" = none
  sum : mg "sum" = none
  any : mg "any" = none
  enumerate : mg "enumerate" = none
  zip : mg "zip" = none
  dict : mg "dict" = none
  abs : mg "abs" = none
theorem bts2_mk {K : PySem.W.Frag} {h : Heap} {mg : Str → Option Value} (X : K.In h) (G : h.Ns mainGlobals mg) (y1 : PySem.W.nsIn K mainGlobals "sorted" = some none) (y2 : PySem.W.nsIn K mainGlobals "sum" = some none) (y3 : PySem.W.nsIn K mainGlobals "any" = some none) (y4 : PySem.W.nsIn K mainGlobals "enumerate" = some none) (y5 : PySem.W.nsIn K mainGlobals "zip" = some none) (y6 : PySem.W.nsIn K mainGlobals "dict" = some none) (y7 : PySem.W.nsIn K mainGlobals "abs" = some none) : Bts2 mg :=
  ⟨PySem.W.mg_none_of X G y1, PySem.W.mg_none_of X G y2, PySem.W.mg_none_of X G y3, PySem.W.mg_none_of X G y4, PySem.W.mg_none_of X G y5, PySem.W.mg_none_of X G y6, PySem.W.mg_none_of X G y7⟩
end L2
/-! ### texts: find, split, join, their signs gone through, int of a text, parts -/
namespace L2
open PySem PySem.Spec PyProof.Rows PySem.Builtin PySem.Builtin.Str
section
variable {X : Cx} {tg : Expr}
/-! int of a text -/
end
end L2
namespace L2
open PySem PySem.Spec PyProof.Rows PySem.Builtin PySem.Builtin.Str
/-! the signs of a text, one by one -/
section
variable {X : Cx} {tg : Expr}
/-! a part of a text -/
end
end L2
namespace L2
open PySem PySem.Spec PyProof.Rows
end L2
namespace L2
open PySem PySem.Spec PyProof.Rows
section
variable {X : Cx} {scope : Scope} {x : Str} {L : List Str} {b : Blk} {o e : Expr} {es : List Expr} {to : TE} {t : TA} {name : Str} {apos cpos : Pos} {T id : String} {r : V → List V → Hp → VK → Prop}
end
end L2
/-! ### a set of ints, made of a list and gone through -/
namespace L2
namespace ST
open PySem
/-- the places rise -/
def Rs (xs : Array Nat) : Prop := xs.toList.Pairwise (· < ·)
theorem Rs.lt {xs : Array Nat} (h : Rs xs) {i j : Nat} (hij : i < j) (hj : j < xs.size) : xs.getD i 0 < xs.getD j 0 := by
  have hi : i < xs.size := by omega
  have := (List.pairwise_iff_getElem.mp h) i j (by simpa using hi) (by simpa using hj) hij
  simpa [Array.getD, hi, hj] using this
/-- what the search by halves comes to -/
def Blw (xs : Array Nat) (j p : Nat) : Prop := p ≤ xs.size ∧ (∀ i, i < p → xs.getD i 0 < j) ∧ ∀ i, p ≤ i → i < xs.size → j ≤ xs.getD i 0
theorem go_blw {xs : Array Nat} (h : Rs xs) {j : Nat} : ∀ (f lo hi : Nat), hi - lo ≤ f → lo ≤ hi → hi ≤ xs.size → (∀ i, i < lo → xs.getD i 0 < j) → (∀ i, hi ≤ i → i < xs.size → j ≤ xs.getD i 0) → Blw xs j (SetTable.below.go xs j f lo hi)
  | 0, lo, hi, hf, hl, hs, h1, h2 => by
    have e : lo = hi := by omega
    subst e
    exact ⟨hs, h1, h2⟩
  | f + 1, lo, hi, hf, hl, hs, h1, h2 => by
    unfold SetTable.below.go
    by_cases c : lo < hi
    · rw [if_pos c]
      have hm : (lo + hi) / 2 < xs.size := by omega
      have eg : xs.getD ((lo + hi) / 2) j = xs.getD ((lo + hi) / 2) 0 := by simp [Array.getD, hm]
      show Blw xs j (if xs.getD ((lo + hi) / 2) j < j then _ else _)
      rw [eg]
      by_cases c2 : xs.getD ((lo + hi) / 2) 0 < j
      · rw [if_pos c2]
        refine go_blw h f ((lo + hi) / 2 + 1) hi (by omega) (by omega) hs (fun i hi' => ?_) h2
        by_cases e : i = (lo + hi) / 2
        · rw [e]; exact c2
        · exact Nat.lt_trans (h.lt (i := i) (j := (lo + hi) / 2) (by omega) hm) c2
      · rw [if_neg c2]
        refine go_blw h f lo ((lo + hi) / 2) (by omega) (by omega) (by omega) h1 (fun i hi' hi2 => ?_)
        by_cases e : i = (lo + hi) / 2
        · rw [e]; omega
        · have := h.lt (i := (lo + hi) / 2) (j := i) (by omega) hi2
          omega
    · rw [if_neg c]
      have e : lo = hi := by omega
      subst e
      exact ⟨hs, h1, h2⟩
theorem blw {xs : Array Nat} (h : Rs xs) (j : Nat) : Blw xs j (SetTable.below xs j) :=
  go_blw h xs.size 0 xs.size (by omega) (Nat.zero_le _) (Nat.le_refl _) (fun i hi => absurd hi (Nat.not_lt_zero _)) (fun i h1 h2 => absurd h2 (by omega))
theorem blw_uniq {xs : Array Nat} {j p q : Nat} (a : Blw xs j p) (b : Blw xs j q) : p = q := by
  rcases Nat.lt_trichotomy p q with z | z | z
  · have h1 := b.2.1 p z
    have h2 := a.2.2 p (Nat.le_refl _) (by have := b.1; omega)
    omega
  · exact z
  · have h1 := a.2.1 q z
    have h2 := b.2.2 q (Nat.le_refl _) (by have := a.1; omega)
    omega
theorem blw_zero {xs : Array Nat} (h : Rs xs) : SetTable.below xs 0 = 0 :=
  blw_uniq (blw h 0) ⟨Nat.zero_le _, fun i hi => absurd hi (Nat.not_lt_zero _), fun _ _ _ => Nat.zero_le _⟩
theorem blw_next {xs : Array Nat} (h : Rs xs) {i : Nat} (hi : i < xs.size) : SetTable.below xs (xs.getD i 0 + 1) = i + 1 := by
  refine blw_uniq (blw h _) ⟨hi, fun k hk => ?_, fun k hk h2 => ?_⟩
  · by_cases e : k = i
    · rw [e]; omega
    · have := h.lt (i := k) (j := i) (by omega) hi
      omega
  · have := h.lt (i := i) (j := k) (by omega) h2
    omega
/-- a new place put among rising ones -/
theorem put_rs {xs : Array Nat} (h : Rs xs) {j : Nat} (hn : xs[SetTable.below xs j]? ≠ some j) : Rs (SetTable.insertAt xs (SetTable.below xs j) j) := by
  obtain ⟨b1, b2, b3⟩ := blw h j
  unfold Rs
  rw [SetTable.toList_insertAt, List.pairwise_append]
  have gd : ∀ (i : Nat) (hi : i < xs.toList.length), xs.toList[i] = xs.getD i 0 := fun i hi => by
    have hi' : i < xs.size := by simpa using hi
    simp [Array.getD, hi']
  refine ⟨h.sublist (List.take_sublist _ _), ?_, ?_⟩
  · rw [List.pairwise_cons]
    refine ⟨fun a ha => ?_, h.sublist (List.drop_sublist _ _)⟩
    obtain ⟨i, hi, e⟩ := List.getElem_of_mem ha
    rw [List.length_drop] at hi
    rw [List.getElem_drop, gd _ (by omega)] at e
    have h1 := b3 (SetTable.below xs j + i) (by omega) (by have : xs.toList.length = xs.size := by simp
                                                           omega)
    have : xs.getD (SetTable.below xs j + i) 0 ≠ j := by
      intro ee
      by_cases z : i = 0
      · subst z
        apply hn
        have hlt : SetTable.below xs j < xs.size := by
          have : xs.toList.length = xs.size := by simp
          omega
        rw [Array.getElem?_eq_getElem hlt]
        have : xs.getD (SetTable.below xs j + 0) 0 = xs[SetTable.below xs j] := by simp [Array.getD, hlt]
        rw [← this, ee]
      · have hlt : SetTable.below xs j + i < xs.size := by
          have : xs.toList.length = xs.size := by simp
          omega
        have h2 := h.lt (i := SetTable.below xs j) (j := SetTable.below xs j + i) (by omega) hlt
        have h3 := b3 (SetTable.below xs j) (Nat.le_refl _) (by omega)
        omega
    omega
  · intro a ha b hb
    obtain ⟨i, hi, e⟩ := List.getElem_of_mem ha
    have hi' : i < SetTable.below xs j ∧ i < xs.toList.length := by
      rw [List.length_take] at hi
      omega
    rw [List.getElem_take, gd _ hi'.2] at e
    have h1 := b2 i hi'.1
    rcases List.mem_cons.mp hb with rfl | hb
    · omega
    · obtain ⟨k, hk, e2⟩ := List.getElem_of_mem hb
      rw [List.length_drop] at hk
      rw [List.getElem_drop, gd _ (by omega)] at e2
      have h2 := b3 (SetTable.below xs j + k) (by omega) (by have : xs.toList.length = xs.size := by simp
                                                             omega)
      omega
/-- the search for a free place ends at one that is not live -/
theorem probe_free {t : SetTable} {f : Nat → Int} {h : Int} : ∀ (n : Nat) (p : SetTable.Probe) (j : Nat) (d : Option Nat), (∀ x, p.dummy = some x → t.slot x = .dummy) → SetTable.probe.go t f h n p = some (.empty j d) → t.slot j = .empty ∧ ∀ x, d = some x → t.slot x = .dummy
  | 0, _, _, _, _, e => by unfold SetTable.probe.go at e; cases e
  | n + 1, p, j, d, hd, e => by
    unfold SetTable.probe.go at e
    have adv : ∀ q : SetTable.Probe, (t.advance q).dummy = q.dummy := fun q => by
      unfold SetTable.advance
      split <;> rfl
    split at e
    · rename_i c
      injection e with e
      injection e with e1 e2
      subst e1 e2
      exact ⟨c, hd⟩
    · rename_i c
      refine probe_free n _ j d (fun x hx => ?_) e
      rw [adv] at hx
      injection hx with hx
      rw [← hx]
      exact c
    · split at e
      · injection e with e
        cases e
      · refine probe_free n _ j d (fun x hx => ?_) e
        rw [adv] at hx
        exact hd x hx
theorem free_not {t : SetTable} {h : Int} {j : Nat} {b : Bool} (e : t.freeSlot h = some (j, b)) : t.place[SetTable.below t.place j]? ≠ some j := by
  unfold SetTable.freeSlot at e
  have key : ∀ x, t.slot x = .empty ∨ t.slot x = .dummy → t.place[SetTable.below t.place x]? ≠ some x := fun x hx z => by
    unfold SetTable.slot at hx
    simp only [z, beq_self_eq_true, if_true] at hx
    rcases hx with hx | hx <;> cases hx
  split at e
  · rename_i j' d c
    obtain ⟨h1, h2⟩ := probe_free _ _ _ _ (fun x hx => by cases hx) c
    injection e with e
    injection e with e1 e2
    subst e1
    cases d with
    | none => exact key _ (.inl h1)
    | some x => exact key _ (.inr (h2 x rfl))
  · cases e
/-- what the table of a set keeps: who made it, and that its places rise as long as it is plain -/
def Tb (led : Bool) (t : SetTable) : Prop := t.led = led ∧ (t.plain = true → Rs t.place)
theorem Tb.standIn {led : Bool} {t : SetTable} (h : Tb led t) (n : Nat) : Tb led (t.standIn n) := ⟨h.1, fun z => by cases z⟩
theorem Tb.orStandIn {led : Bool} {t : SetTable} (h : Tb led t) (n : Nat) : Tb led (t.orStandIn n) := by
  unfold SetTable.orStandIn
  split
  · exact h
  · exact h.standIn n
theorem Tb.layNew {led : Bool} {t : SetTable} (h : Tb led t) (es : Array (Int × Value)) (k : Int) (x : Value) : Tb led (layNew t es k x).2.1 := by
  unfold PySem.layNew
  split
  · rename_i j b c
    exact Tb.orStandIn (t := (t.put j).1) ⟨h.1, fun z => put_rs (h.2 z) (free_not c)⟩ _
  · exact h.standIn _
theorem Tb.relay {led : Bool} {t : SetTable} (h : Tb led t) (es : Array (Int × Value)) (n : Nat) : Tb led (relayAll t es n).2.1 := by
  unfold relayAll
  split
  · rename_i t' order c
    dsimp only
    split
    · unfold SetTable.relaid SetTable.laid at c
      cases ho : SetTable.layClean (SetTable.sizeAbove n - 1) (es.map (·.1)) with
      | none => rw [ho] at c; cases c
      | some owner =>
        rw [ho] at c
        injection c with c
        injection c with c1 c2
        subst c1
        refine ⟨h.1, fun _ => ?_⟩
        unfold Rs
        show ((((List.range (SetTable.sizeAbove n - 1 + 1)).filterMap fun j => (owner.getD j none).map (j, ·)).map (·.1)).toArray.toList).Pairwise (· < ·)
        rw [List.pairwise_map]
        refine List.Pairwise.filterMap _ ?_ List.pairwise_lt_range
        intro a b hab x hx y hy
        rw [Option.map_eq_some_iff] at hx hy
        obtain ⟨u, _, rfl⟩ := hx
        obtain ⟨v, _, rfl⟩ := hy
        exact hab
    · exact h.standIn _
  · exact h.standIn _
theorem Tb.fresh (led : Bool) : Tb led (.fresh 0 0 led) := ⟨rfl, fun _ => List.Pairwise.nil⟩
end ST
end L2
/-! ### set(list of ints) -/
namespace L2
namespace ST
open PySem PyProof.Rows
section
variable {P : Program} {w : World} {A : Around} {E : Value → Shared → Prop} {s : Shared}
abbrev ledOf (w : World) : Bool := !(w.params.followText "set-order")
def SetG (P : Program) (w : World) (h : Heap) (a : Addr) (S : Int → Bool) (n : Nat) : Prop :=
  ∃ o es ep t, h.get? a = some o ∧ o.ExactSet ∧ o.data = .set es ep t ∧ ElemsOf (intKind P w) es.toList ∧ (∀ k, S k = true ↔ ∃ e ∈ es.toList, (intKind P w).is k e.2 = true) ∧ es.size < scanBound ∧ t.fits es.size = true ∧ es.size = n ∧ Tb (ledOf w) t
theorem SetG.at' {h h' : Heap} {a : Addr} {S : Int → Bool} {n : Nat} (g : SetG P w h a S n) (k : ∀ o, h.get? a = some o → h'.get? a = some o) : SetG P w h' a S n := by
  obtain ⟨o, es, ep, t, ho, rest⟩ := g
  exact ⟨o, es, ep, t, k o ho, rest⟩
theorem SetG.congr {h : Heap} {a : Addr} {S S' : Int → Bool} {n n' : Nat} (g : SetG P w h a S n) (e : ∀ k, S k = S' k) (en : n = n') : SetG P w h a S' n' := by
  have : S = S' := funext e
  subst this
  subst en
  exact g
theorem gave_ok {b : Bool} {s1 : Shared} {R : Unit → Shared → Prop} (hq : R () s1) : wpAny (model P w) A (match b with | true => rule "set.scan.the-table-gave-way" | false => pure ()) R E s1 := by
  cases b
  · exact wpAny_pure hq
  · exact wpAny_rule hq
/-- the elements stored anew -/
theorem put_G {h : Heap} {a : Addr} {o : Obj} {es : Array (Int × Value)} {ep : Nat} {t : SetTable} (ho : h.get? a = some o) (hx : o.ExactSet) (hd : o.data = .set es ep t) {es' : Array (Int × Value)} {t' : SetTable} {S' : Int → Bool}
    (g1 : ElemsOf (intKind P w) es'.toList) (g2 : ∀ k, S' k = true ↔ ∃ e ∈ es'.toList, (intKind P w).is k e.2 = true) (g3 : es'.size < scanBound) (g4 : t'.fits es'.size = true) (g5 : Tb (ledOf w) t') :
    (h.update a (Obj.putSet es' t')).get? a = some { o with data := .set es' (ep + 1) t' } ∧ SetG P w (h.update a (Obj.putSet es' t')) a S' es'.size := by
  obtain ⟨z, _⟩ := SetOf_store (knd := intKind P w) ho hx hd g1 g2 g3 g4
  exact ⟨z, _, es', ep + 1, t', z, hx, rfl, g1, g2, g3, g4, rfl, g5⟩
theorem tail_G {a : Addr} {o : Obj} {es : Array (Int × Value)} {ep : Nat} {t : SetTable} (ho : s.heap.get? a = some o) (hx : o.ExactSet) (hd : o.data = .set es ep t) {es1 : Array (Int × Value)} {t2 : SetTable} {S' : Int → Bool}
    (g1 : ElemsOf (intKind P w) es1.toList) (g2 : ∀ k, S' k = true ↔ ∃ e ∈ es1.toList, (intKind P w).is k e.2 = true) (g3 : es1.size < scanBound) (g4 : t2.fits es1.size = true) (g5 : Tb (ledOf w) t2)
    {g : Bool → Sem Unit} (hg : ∀ (b : Bool) (s1 : Shared) (R : Unit → Shared → Prop), R () s1 → wpAny (model P w) A (g b) R E s1) {dm : Bool} {R : Option Bool → Shared → Prop}
    (q : ∀ h', Heap.SameBut a s.heap h' → SetG P w h' a S' es1.size → R (some true) { s with heap := h' }) :
    wpAny (model P w) A (storeSet a es1 t2 >>= fun _ => if (!dm && t2.tooFull) = true then (g (relayAll t2 es1 (SetTable.grown es1.size)).2.2 >>= fun _ => storeSet a (relayAll t2 es1 (SetTable.grown es1.size)).1 (relayAll t2 es1 (SetTable.grown es1.size)).2.1 >>= fun _ => pure (some true)) else pure (some true)) R E s := by
  obtain ⟨o1, G1⟩ := put_G (P := P) (w := w) ho hx hd g1 g2 g3 g4 g5
  have sb := Heap.SameBut.update s.heap a (Obj.putSet es1 t2)
  refine wpAny_bind (wpAny_storeSet_of ho hd ?_ (fits_of_scanBound g3))
  by_cases c : (!dm && t2.tooFull) = true
  · rw [if_pos c]
    have r1 := relayAll_perm t2 es1 (SetTable.grown es1.size)
    have r2 := relayAll_fits t2 es1 (SetTable.grown es1.size)
    have r3 := g5.relay es1 (SetTable.grown es1.size)
    generalize relayAll t2 es1 (SetTable.grown es1.size) = Z at r1 r2 r3 ⊢
    obtain ⟨es2, t3, gv⟩ := Z
    have sz : es2.size = es1.size := by
      have := r1.length_eq
      simpa using this
    refine wpAny_bind (hg _ _ _ ?_)
    obtain ⟨_, G2⟩ := put_G (P := P) (w := w) (es' := es2) (t' := t3) (S' := S') o1 hx rfl (g1.perm r1) (fun k => by
      rw [g2 k]
      exact ⟨fun ⟨e, he, z⟩ => ⟨e, r1.mem_iff.mpr he, z⟩, fun ⟨e, he, z⟩ => ⟨e, r1.mem_iff.mp he, z⟩⟩) (by omega) r2 r3
    refine wpAny_bind (wpAny_storeSet_of o1 rfl (wpAny_pure (q _ (sb.trans (Heap.SameBut.update _ a _)) ?_)) (fits_of_scanBound (by show es2.size < _; omega)))
    rw [sz] at G2
    exact G2
  · rw [if_neg c]
    exact wpAny_pure (q _ sb G1)
/-- one more int -/
theorem add_G {a : Addr} {S : Int → Bool} {n : Nat} {k : Int} {u : Tok} {Q : Bool → Shared → Prop} (G : SetG P w s.heap a S n) (hn1 : n + 1 < scanBound)
    (q : ∀ h', Heap.SameBut a s.heap h' → SetG P w h' a (fun j => S j || decide (j = k)) (if S k then n else n + 1) → Q (!S k) { s with heap := h' }) :
    wpAny (model P w) A (setAddHashed a (.int k u) ((intKind P w).hash k)) Q E s := by
  obtain ⟨o, es, ep, t, ho, hx, hd, g1, g2, g3, g4, hn, g5⟩ := G
  have is1 : (intKind P w).is k (.int k u) = true := intKind_is _ _ _ _
  unfold setAddHashed setAddHashedIn
  refine wpAny_holding (wpAny_bind (wpAny_setState_of ho hd g4 ?_))
  dsimp only
  rw [byScan_of (knd := intKind P w) (x := .int k u) rfl g3 g1]
  simp only [if_true]
  unfold setAddByScan
  refine wpAny_bind (wpAny_bind (wpAny_rule (wpAny_bind (wpAny_setScan_of is1 ho hd g4 g1 ?_))))
  cases hr : List.findIdx? (fun e => (intKind P w).is k e.2) es.toList with
  | some j =>
    obtain ⟨hj, hp, _⟩ := List.findIdx?_eq_some_iff_getElem.mp hr
    have hS : S k = true := (g2 k).mpr ⟨es.toList[j], List.getElem_mem hj, hp⟩
    have z := q s.heap (Heap.SameBut.refl a s.heap) ⟨o, es, ep, t, ho, hx, hd, g1, fun i => by
      rw [Bool.or_eq_true, decide_eq_true_eq, ← g2 i]
      exact ⟨fun c => c.elim id fun e => by rw [e]; exact hS, .inl⟩, g3, g4, by rw [hS]; exact hn, g5⟩
    rw [hS] at z
    exact wpAny_pure (wpAny_pure z)
  | none =>
    have hS : S k = false := by
      cases c : S k with
      | false => rfl
      | true =>
        obtain ⟨e, he, hp⟩ := (g2 k).mp c
        rw [List.findIdx?_eq_none_iff.mp hr e he] at hp
        cases hp
    have l1 := layNew_perm t es ((intKind P w).hash k) (.int k u)
    have l2 := layNew_fits t es ((intKind P w).hash k) (.int k u)
    have l3 := g5.layNew es ((intKind P w).hash k) (.int k u)
    dsimp only
    generalize layNew t es ((intKind P w).hash k) (.int k u) = Z at l1 l2 l3 ⊢
    obtain ⟨es1, t1, dm, gv⟩ := Z
    dsimp only at l1 l2 l3 ⊢
    rw [Array.toList_push] at l1
    have sz : es1.size = n + 1 := by
      have := l1.length_eq
      simp at this
      omega
    refine wpAny_bind (gave_ok ?_)
    have fin : ∀ h', Heap.SameBut a s.heap h' → SetG P w h' a (fun j => S j || decide (j = k)) es1.size → Q true { s with heap := h' } := fun h' sb G' => by
      have z := q h' sb
      rw [hS, ← sz] at z
      exact z G'
    have t0 : ∀ t2, t2.fits es1.size = true → Tb (ledOf w) t2 → wpAny (model P w) A (storeSet a es1 t2 >>= fun _ => if (!dm && t2.tooFull) = true then ((match (relayAll t2 es1 (SetTable.grown es1.size)).2.2 with | true => rule "set.scan.the-table-gave-way" | false => pure ()) >>= fun _ => storeSet a (relayAll t2 es1 (SetTable.grown es1.size)).1 (relayAll t2 es1 (SetTable.grown es1.size)).2.1 >>= fun _ => pure (some true)) else pure (some true))
        (fun r s' => ∃ h', r = some true ∧ s' = { s with heap := h' } ∧ Q true s') E s := fun t2 z1 z2 =>
      tail_G (P := P) (w := w) (g := fun b => match b with | true => rule "set.scan.the-table-gave-way" | false => pure ()) ho hx hd ((g1.push is1 rfl).perm l1) (mem_push_iff is1 g2 l1) (by omega) z1 z2 (fun b s1 R hq => gave_ok hq) fun h' sb G' => ⟨h', rfl, rfl, fin h' sb G'⟩
    split
    · refine wpAny_bind ?_
      rw [hashByValue_scannable 8 (x := .int k u) rfl]
      refine wpAny_pure (wpAny_mono (t0 t1 l2 l3) ?_ fun _ _ e => e)
      rintro r s' ⟨h', rfl, rfl, z⟩
      exact wpAny_pure z
    · refine wpAny_bind (wpAny_pure (wpAny_mono (t0 t1 l2 l3) ?_ fun _ _ e => e))
      rintro r s' ⟨h', rfl, rfl, z⟩
      exact wpAny_pure z
end
end ST
end L2
/-! ### the loop that fills a set, and the call set(xs) -/
namespace L2
namespace ST
open PySem PyProof.Rows
section
variable {P : Program} {w : World} {A : Around} {E : Value → Shared → Prop} {s : Shared}
/-- what is in the set behind the first i numbers -/
abbrev metS (v : Nat → Int) (i : Nat) : Int → Bool := fun j => (firstMet v i).any (· == j)
theorem loop_G {R : Result → Shared → Prop} {I : Addr} {fp wr : List Addr} {g : Array GenState → Array GenState → Prop} {n : Nat} {p : Nat → Value → Prop} {St : Nat → Shared → Prop} (W : WalksS P w A.in1 I fp wr g n p St) (b : Addr) (hb : b ∉ fp)
    (v : Nat → Int) (hv : ∀ i x, p i x → ∃ u, x = .int (v i) u) (hn : n + 1 < scanBound) (hR : ∀ s0 s', Moved (b :: wr) g s0 s' → s0 = s → SetG P w s'.heap b (metS v n) (firstMet v n).length → R (.ok (.ret .none)) s') :
    ∀ (k i : Nat) (s1 : Shared), n - i = k → i ≤ n → St i s1 → SetG P w s1.heap b (metS v i) (firstMet v i).length → Moved (b :: wr) g s s1 → codeAny (model P w) A (.builtin "set.update.loop" ⟨[.ref b, .ref I], []⟩) R s1 := by
  have up : ∀ x ∈ wr, x ∈ b :: wr := fun x hx => List.mem_cons_of_mem _ hx
  have hbw : b ∉ wr := fun z => hb (W.sub _ z)
  intro k
  induction k with
  | zero =>
    intro i s1 hk hi st G M
    have e : i = n := by omega
    subst e
    refine codeAny_builtin F.entry_set_update_loop ?_
    rw [Around.under_plainId F.plain_set_update_loop _]
    show wpAny (model P w) A.in1 (pyNext (.ref I) >>= _) _ _ s1
    exact wpAny_bind (W.done s1 _ _ st fun s2 m => wpAny_pure (hR s s2 (M.trans W.gtrans (m.mono up)) rfl (G.at' fun o e => m.heap b o hbw e)))
  | succ k ih =>
    intro i s1 hk hi st G M
    have hlt : i < n := by omega
    refine codeAny_builtin F.entry_set_update_loop ?_
    rw [Around.under_plainId F.plain_set_update_loop _]
    show wpAny (model P w) A.in1 (pyNext (.ref I) >>= _) _ _ s1
    refine wpAny_bind (W.item i s1 _ _ hlt st fun x s2 px st2 m => ?_)
    obtain ⟨u, rfl⟩ := hv i x px
    have G2 : SetG P w s2.heap b (metS v i) (firstMet v i).length := G.at' fun o e => m.heap b o hbw e
    show wpAny (model P w) A.in1 (holding [Value.int (v i) u] (setAdd b (.int (v i) u)) >>= _) _ _ s2
    unfold setAdd
    refine wpAny_bind (wpAny_holding (wpAny_holding (wpAny_bind ((intKind P w).pyHash (k := v i) (intKind_is _ _ _ _) ?_))))
    have room : (firstMet v i).length + 1 < scanBound := by
      have := firstMet_length_le v i
      omega
    refine add_G (s := { s2 with toks := s2.toks + 1 }) G2 room fun h' sb G3 => ?_
    have G4 : SetG P w h' b (metS v (i + 1)) (firstMet v (i + 1)).length := G3.congr (fun j => by show _ = (firstMet v (i + 1)).any (· == j); rw [firstMet_succ, step_any]) (by rw [firstMet_succ, step_length])
    refine wpAny_pure ⟨plainId_quiet F.plain_set_update_loop _, ih (i + 1) _ (by omega) hlt (W.frame _ s2 h' (s2.toks + 1) st2 (Nat.le_succ _) fun c hc o e => ?_) G4 (M.trans W.gtrans ((m.mono up).then_heap (Nat.le_succ _) fun c o hc e => ?_))⟩
    · rw [sb.2 c fun z => hb (z ▸ hc)]
      exact e
    · rw [sb.2 c fun z => hc (z ▸ List.mem_cons_self)]
      exact e
end
end ST
end L2
namespace L2
namespace ST
open PySem PyProof.Rows
abbrev emptyS (led : Bool) : Obj := { cls := .type "set", dict := none, data := .set #[] 0 (.fresh 0 0 led) }
section
variable {P : Program} {w : World} {A : Around} {E : Value → Shared → Prop} {s : Shared}
theorem new_G (x : Value) {R : Value → Shared → Prop} (q : R (.ref s.heap.objs.size) { s with heap := s.heap.push (emptyS (ledOf w)) }) :
    codeAny (model P w) A (.call (.builtin "set.__new__") ⟨[.type "set", x], []⟩) (wants R E) s := by
  refine codeAny_of_tree ?_
  show wpAny (model P w) A.in1 (checkBuiltinCall "set.__new__" ⟨[.type "set", x], []⟩ >>= fun _ => again (.builtin "set.__new__" ⟨[.type "set", x], []⟩)) _ _ s
  refine wpAny_bind (wpAny_of_eq (F.newCall_set_1 x) (wpAny_pure ⟨plainId_quiet F.plain_set_new _, codeAny_builtin F.entry_set_new ?_⟩))
  rw [Around.under_plainId F.plain_set_new _]
  unfold Builtin.«set.__new__»
  unfold Builtin.Frozenset.newClass
  have sub := sub_set_self
  obtain ⟨hp, gs, dr, tk, os⟩ := s
  dsimp only
  wp_walk
  refine wpAny_askSetting (wpAny_pure ?_)
  dsimp only
  simp only [newObj]
  exact wpAny_bind (wpAny_alloc (wpAny_pure (wpAny_pure q)))
theorem name_set {b : Addr} {Q : String → Shared → Prop} (ty : s.TypeIs (.ref b) "set") (q : ∀ n, Q n s) : wpAny (model P w) A (typeNameOfCut 200 (.ref b)) Q E s := by
  unfold typeNameOfCut shownTypeOf
  refine wpAny_bind (wpAny_bind (wpAny_typeOf ty ?_))
  refine wpAny_ite_split (fun c => absurd c (by decide)) fun _ => wpAny_pure ?_
  have e : typeName (.type "set") = pure "set" := by unfold typeName; rw [find?_eq_fast]; kernel_rfl
  show wpAny (model P w) A (typeName (.type "set")) Q E s
  rw [e]
  exact wpAny_pure (q _)
theorem any_set {b : Addr} {Q : Bool → Shared → Prop} (ty : s.TypeIs (.ref b) "list") (m1 : isSubtype (.type "list") (.type "set") = pure false) (m2 : isSubtype (.type "list") (.type "frozenset") = pure false) (q : Q false s) : wpAny (model P w) A (Builtin.Frozenset.isAnySet (.ref b)) Q E s := by
  unfold Builtin.Frozenset.isAnySet
  refine wpAny_bind (wpAny_isInstance ty m1 ?_)
  exact wpAny_isInstance ty m2 q
/-- set(xs), xs a list of ints -/
theorem call_G {l : Addr} {its : Array Value} {ns : List Int} {Q : Value → Shared → Prop} (hh : A.handled = none) (hl : s.heap.IsList l its) (hi : IntsAre its.toList ns) (hz : its.size + 1 < scanBound)
    (q : ∀ (h' : Heap) (tk : Nat), SetG P w h' s.heap.objs.size (metS (fun i => ns.getD i 0) its.size) (firstMet (fun i => ns.getD i 0) its.size).length → (∀ b o, s.heap.get? b = some o → h'.get? b = some o) → Q (.ref s.heap.objs.size) { s with heap := h', toks := tk }) :
    wpAny (model P w) A (call (.type "set") [.ref l]) Q E s := by
  obtain ⟨c, tl, mro⟩ := F.called_set.mro
  have made := F.called_set.made
  have sub := F.called_set.sub
  refine wpAny_call (codeAny_of_tree ?_)
  show wpAny (model P w) _ (callAny (.type "set") _) _ _ _
  refine wpAny_pure ⟨Code.quiet_builtin _ (by decide +kernel), codeAny_builtin F.entry_type_call ?_⟩
  rw [Around.under_plain (weight_type_call_type "set" [.ref l] []) rfl]
  have n1 := F.called_set.notType
  have n2 := F.called_set.canCreate
  have n3 := F.typeCall_set_1 (.ref l)
  repeat any_goals first | assumption | wp_step
  refine codeAny_mono (new_G (.ref l) (E := E) (R := fun x s1 => x = .ref s.heap.objs.size ∧ s1 = { s with heap := s.heap.push (emptyS (ledOf w)) }) ⟨rfl, rfl⟩) fun r s1 hr => ?_
  cases r with
  | error e => exact hr
  | ok fl =>
    cases fl with
    | ret x =>
      obtain ⟨rfl, rfl⟩ := hr
      have e0 : (s.heap.push (emptyS (ledOf w))).get? s.heap.objs.size = some (emptyS (ledOf w)) := Heap.get?_push_size _ rfl
      have ty : Shared.TypeIs { s with heap := s.heap.push (emptyS (ledOf w)) } (.ref s.heap.objs.size) "set" := ⟨_, e0, rfl⟩
      have i1 := F.called_set.init.lookup
      have i2 := F.called_set.init.bind (.ref s.heap.objs.size)
      repeat any_goals first | assumption | wp_step
      refine codeAny_mono (codeAny_call_builtin (R := wants (fun r s2 => r = .none ∧ ∃ h' tk, s2 = { s with heap := h', toks := tk } ∧ SetG P w h' s.heap.objs.size (metS (fun i => ns.getD i 0) its.size) (firstMet (fun i => ns.getD i 0) its.size).length ∧ ∀ b o, s.heap.get? b = some o → h'.get? b = some o) E) F.called_set.init.plain F.entry_set_init (check_set_init_1 ty ?_)) fun r2 s2 h2 => ?_
      · obtain ⟨ol, hol, hcl, nl, hdl⟩ := hl
        obtain ⟨oc, od, dt, osl⟩ := ol
        simp only at hcl hdl
        subst hcl
        subst hdl
        have hol1 : (s.heap.push (emptyS (ledOf w))).get? l = some { cls := .type "list", dict := od, data := .seq its nl, slots := osl } := Heap.get?_push_of_some _ hol
        have m1 := F.sub_list_set
        have m2 := F.sub_list_frozenset
        have m3 : (Value.type "list" == Value.type "dict") = false := by decide
        have hl1 : (s.heap.push (emptyS (ledOf w))).IsList l its := ⟨_, hol1, rfl, nl, rfl⟩
        have tl1 : Shared.TypeIs { s with heap := s.heap.push (emptyS (ledOf w)) } (.ref l) "list" := ⟨_, hol1, rfl⟩
        unfold Builtin.«set.__init__»
        refine wpAny_bind (wpAny_pure ?_)
        refine wpAny_bind (name_set ty fun nm => wpAny_bind ?_)
        refine wpAny_of_eq (a := ()) rfl (wpAny_bind (wpAny_pure (wpAny_bind ?_)))
        unfold setUsed
        refine wpAny_bind (wpAny_setState_of e0 rfl rfl (wpAny_pure ?_))
        refine wpAny_ite_split (fun c => absurd (show ((0 : Nat) != 0) = true from c) (by decide)) fun _ => wpAny_bind ?_
        unfold Builtin.Frozenset.updateFrom
        refine wpAny_bind (any_set tl1 m1 m2 ?_)
        refine wpAny_ite_split (fun c => absurd c (by decide)) fun _ => wpAny_bind (wpAny_typeOf tl1 ?_)
        refine wpAny_ite_split (fun c => absurd c (by rw [m3]; decide)) fun _ => wpAny_bind ?_
        refine wpAny_pyIter_list hl1 (wpAny_bind (wpAny_runValue ?_))
        have ls : l < s.heap.objs.size := Heap.lt_size hol
        have hh3 : A.in1.in1.in1.handled = none := by simp [hh]
        have sz1 : (s.heap.push (emptyS (ledOf w))).objs.size = s.heap.objs.size + 1 := Heap.size_push _ _
        have nf : s.heap.objs.size ∉ [(s.heap.push (emptyS (ledOf w))).objs.size, l] := by
          rw [sz1]
          simp only [List.mem_cons, List.not_mem_nil, or_false, not_or]
          exact ⟨Nat.ne_of_lt (Nat.lt_succ_self _), Nat.ne_of_gt ls⟩
        refine loop_G (s := { s with heap := (s.heap.push (emptyS (ledOf w))).push { cls := .type "list_iterator", data := .fields #[.ref l, .int 0 0] } }) ((Walks.list hh3 _ l (by rw [sz1]; exact Nat.ne_of_lt (Nat.lt_succ_of_lt ls)) its).toS) s.heap.objs.size nf (fun i => ns.getD i 0) (fun i v e => IntsAre.int_at hi i v (by rw [Array.getElem?_toList]; exact e)) hz
          ?_ (its.size - 0) 0 _ (by omega) (Nat.zero_le _) ⟨⟨_, Heap.get?_push_size _ rfl, rfl, rfl⟩, hl1.push _⟩ ?_ (Moved.refl fun _ => rfl)
        · rintro s0 s' m rfl G'
          obtain ⟨h', g', d', tk', os'⟩ := s'
          have eg : g' = s.gens := m.gens
          have ed : d' = s.drawn := m.drawn
          have eo : os' = s.os := m.os
          subst eg
          subst ed
          subst eo
          refine wpAny_pure (wpAny_pure ⟨rfl, h', tk', rfl, G', fun b o e => ?_⟩)
          have lb : b < s.heap.objs.size := Heap.lt_size e
          refine m.heap b o ?_ (Heap.get?_push_of_some _ (Heap.get?_push_of_some _ e))
          rw [sz1]
          simp only [List.mem_cons, List.not_mem_nil, or_false, not_or]
          exact ⟨Nat.ne_of_lt lb, Nat.ne_of_lt (Nat.lt_succ_of_lt lb)⟩
        · exact ⟨_, #[], 0, _, Heap.get?_push_of_some _ e0, ⟨rfl, rfl, rfl⟩, rfl, fun e he => by simp at he, fun k => by simp [metS, firstMet], by decide, rfl, rfl, Tb.fresh _⟩
      · cases r2 with
        | error e => exact h2
        | ok f2 =>
          cases f2 with
          | ret x =>
            obtain ⟨rfl, h', tk, rfl, G', kp⟩ := h2
            repeat any_goals first | assumption | wp_step
            exact q _ _ G' kp
          | _ => exact h2.elim
    | _ => exact hr.elim
end
end ST
end L2
/-! ### a set of ints gone through -/
namespace L2
namespace ST
open PySem PyProof.Rows
theorem sI_next : PySem.Slot "set_iterator" "__next__" "set_iterator.__next__" :=
  .of (owner := "set_iterator") (n := "__next__") (by rw [typeLookup_type, builtinLookup_eq_fast]; kernel_rfl) (by decide +kernel) (by decide +kernel) (by decide +kernel) (by first | exact .inr (by decide +kernel) | exact .inl (by decide +kernel)) (by rw [isSubtype_type]; kernel_rfl)
theorem sI_entry : entryFor table "set_iterator.__next__" = some Builtin.«set_iterator.__next__» := entryFor_of_tree (by kernel_rfl)
theorem sI_own : Manifest.owners.lookup (String.ofList ['r', 'o', 't', 'a', 'r', 'e', 't', 'i', '_', 't', 'e', 's'].reverse) = some Manifest.sig_set_iterator := by kernel_rfl
theorem sI_args (a : Value) : argsOk "set_iterator.__next__" ⟨[a], []⟩ := by
  unfold argsOk
  rw [signature?_of (id := "set_iterator.__next__") (n := ['_', '_', 't', 'x', 'e', 'n', '_', '_']) (o := ['r', 'o', 't', 'a', 'r', 'e', 't', 'i', '_', 't', 'e', 's']) (by kernel_rfl) sI_own]
  kernel_rfl
theorem sT_entry : entryFor table "set.__iter__" = some Builtin.«frozenset.__iter__» := entryFor_alias (id' := "frozenset.__iter__") (by kernel_rfl) rfl (by decide +kernel) (by kernel_rfl)
end ST
end L2
namespace L2
namespace ST
open PySem PyProof.Rows
def IsIt (h : Heap) (I a : Addr) (first : Value) (i n ep : Nat) : Prop := ∃ o, h.get? I = some o ∧ o.cls = .type "set_iterator" ∧ o.data = .fields #[first, .int i 0, .ref a, .int n 0, .int ep 0]
theorem IsIt.ty {s : Shared} {I a : Addr} {first : Value} {i n ep : Nat} (x : IsIt s.heap I a first i n ep) : s.TypeIs (.ref I) "set_iterator" := let ⟨o, ho, hc, _⟩ := x; ⟨o, ho, hc⟩
theorem IsIt.at' {h h' : Heap} {I a : Addr} {first : Value} {i n ep : Nat} (x : IsIt h I a first i n ep) (k : ∀ o, h.get? I = some o → h'.get? I = some o) : IsIt h' I a first i n ep := let ⟨o, ho, r⟩ := x; ⟨o, k _ ho, r⟩
def SetAt (h : Heap) (a : Addr) (es : Array (Int × Value)) (ep : Nat) (t : SetTable) : Prop := ∃ o, h.get? a = some o ∧ o.ExactSet ∧ o.data = .set es ep t ∧ t.fits es.size = true
theorem SetAt.at' {h h' : Heap} {a : Addr} {es : Array (Int × Value)} {ep : Nat} {t : SetTable} (x : SetAt h a es ep t) (k : ∀ o, h.get? a = some o → h'.get? a = some o) : SetAt h' a es ep t := let ⟨o, ho, r⟩ := x; ⟨o, k _ ho, r⟩
section
variable {P : Program} {w : World} {A : Around} {E : Value → Shared → Prop} {s : Shared} {I a : Addr} {slot nx i n ep : Nat} {es : Array (Int × Value)} {t : SetTable} {x : Value} {Q : Option Value → Shared → Prop}
theorem nextI (hit : IsIt s.heap I a (.int slot 0) i n ep) (hs : SetAt s.heap a es ep t) (hn : es.size = n)
    (hnx : ∀ (A : Around) (R : Option (Value × Nat) → Shared → Prop) (E : Value → Shared → Prop), R (some (x, nx)) s → wpAny (model P w) A (setNext a slot i ep) R E s)
    (q : ∀ h', IsIt h' I a (.int nx 0) (i + 1) n ep → Heap.SameBut I s.heap h' → Q (some x) { s with heap := h' }) : wpAny (model P w) A (pyNext (.ref I)) Q E s := by
  obtain ⟨o, ho, hc, hd⟩ := id hit
  obtain ⟨oa, hoa, hxa, hda, hfa⟩ := hs
  unfold pyNext
  refine wpAny_bind (wpAny_attempt (wpAny_callSpecial?_slot (name := Str.ofString "__next__") hit.ty sI_next (wpAny_call_entry sI_next hit.ty sI_entry ?_ (sI_args _))))
  unfold Builtin.«set_iterator.__next__»
  refine wpAny_bind (wpAny_pure ?_)
  refine wpAny_bind (wpAny_fieldsOf ho hd ?_)
  dsimp only
  refine wpAny_bind (wpAny_setEntries_of hoa hda hfa ?_)
  rw [if_neg (by rw [hn]; simp)]
  simp only [Int.toNat_natCast]
  refine wpAny_bind (hnx _ _ _ ?_)
  have d1 := Heap.get?_update_self (Obj.mapFields (·.setIfInBounds 0 (rawInt nx))) ho (Obj.isFreed_of_fields (Obj.data_mapFields hd _))
  have d2 : (Obj.mapFields (·.setIfInBounds 0 (rawInt nx)) o).data = .fields #[.int nx 0, .int i 0, .ref a, .int n 0, .int ep 0] := by rw [Obj.data_mapFields hd]; simp [rawInt]
  refine wpAny_bind (wpAny_setField ho hd (by simp) (wpAny_bind (wpAny_setField d1 d2 (by simp) (wpAny_pure ⟨x, rfl, wpAny_pure (q _ ⟨_, Heap.get?_update_self _ d1 (Obj.isFreed_of_fields (Obj.data_mapFields d2 _)), (Obj.cls_mapFields ..).trans ((Obj.cls_mapFields ..).trans hc), ?_⟩ ?_)⟩))))
  · rw [Obj.data_mapFields d2]
    simp [rawInt]
  · exact (Heap.SameBut.update ..).trans (Heap.SameBut.update ..)
/-- what follows where the iterator is through -/
theorem stop_it {R : PySem.Fin → Shared → Prop} {s : Shared} (hh : A.handled = none) (q : ∀ h', Heap.ExtBut I s.heap h' → Q none { s with heap := h' }) :
    wpAny (model P w) A.in1 (newExc (.type "StopIteration") [] >>= fun e => raiseNew e) R (fun e s' => wpAny (model P w) A (isInstance e (.type "StopIteration") >>= fun b => if b = true then pure none else throw e) Q E s') s := by
  refine wpAny_bind ?_
  simp only [newExc, newTuple]
  refine wpAny_bind (wpAny_newObj_type ?_ (by size_fits))
  refine wpAny_bind (m := firstArgMember _ _) (wpAny_of_eq (a := Value.none) (by first | (simp only [firstArgMember]; rfl) | rfl) ?_)
  refine wpAny_newObj_type ?_ (by size_fits)
  simp only [raiseNew]
  refine wpAny_bind (wpAny_handled ?_)
  rw [show A.in1.handled = none from hh]
  refine wpAny_bind (wpAny_pure (wpAny_throw ?_))
  refine wpAny_bind (wpAny_isInstance (T := "StopIteration") (b := true) ⟨_, Heap.get?_push_size _ rfl, rfl⟩ isSubtype_stop ?_)
  exact wpAny_pure (q _ (Heap.ExtBut.push (Heap.ExtBut.push (fun b o _ e => e) _) _))
theorem endI (hh : A.handled = none) (hit : IsIt s.heap I a (.int slot 0) i n ep) (hs : SetAt s.heap a es ep t) (hn : es.size = n)
    (hnx : ∀ (A : Around) (R : Option (Value × Nat) → Shared → Prop) (E : Value → Shared → Prop), R none s → wpAny (model P w) A (setNext a slot i ep) R E s)
    (q : ∀ h', Heap.ExtBut I s.heap h' → Q none { s with heap := h' }) : wpAny (model P w) A (pyNext (.ref I)) Q E s := by
  obtain ⟨o, ho, hc, hd⟩ := id hit
  obtain ⟨oa, hoa, hxa, hda, hfa⟩ := hs
  unfold pyNext
  refine wpAny_bind (wpAny_attempt (wpAny_callSpecial?_slot (name := Str.ofString "__next__") hit.ty sI_next (wpAny_call_entry sI_next hit.ty sI_entry ?_ (sI_args _))))
  unfold Builtin.«set_iterator.__next__»
  refine wpAny_bind (wpAny_pure ?_)
  refine wpAny_bind (wpAny_fieldsOf ho hd ?_)
  dsimp only
  refine wpAny_bind (wpAny_setEntries_of hoa hda hfa ?_)
  rw [if_neg (by rw [hn]; simp)]
  simp only [Int.toNat_natCast]
  refine wpAny_bind (hnx _ _ _ ?_)
  refine wpAny_bind (wpAny_setField ho hd (by simp) (stop_it (I := I) hh fun h' eb => q h' fun b o hb e => eb b o hb ?_))
  exact (Heap.get?_update_other _ _ (Ne.symm hb)).trans e
/-- by places that were drawn -/
theorem nextD {tp : Addr} {ot : Obj} {ps : List Nat} {c : Nat} {pl : Nat} {hv : Int} (hit : IsIt s.heap I a (.ref tp) i n ep) (hs : SetAt s.heap a es ep t) (hn : es.size = n) (hot : s.heap.get? tp = some ot) (hdt : ot.data = .seq (ps.map fun (p : Nat) => Value.int (p : Int) 0).toArray c) (hp : ps[i]? = some pl) (he : es[pl]? = some (hv, x))
    (q : ∀ h', IsIt h' I a (.ref tp) (i + 1) n ep → Heap.SameBut I s.heap h' → Q (some x) { s with heap := h' }) : wpAny (model P w) A (pyNext (.ref I)) Q E s := by
  obtain ⟨o, ho, hc, hd⟩ := id hit
  obtain ⟨oa, hoa, hxa, hda, hfa⟩ := hs
  unfold pyNext
  refine wpAny_bind (wpAny_attempt (wpAny_callSpecial?_slot (name := Str.ofString "__next__") hit.ty sI_next (wpAny_call_entry sI_next hit.ty sI_entry ?_ (sI_args _))))
  unfold Builtin.«set_iterator.__next__»
  refine wpAny_bind (wpAny_pure ?_)
  refine wpAny_bind (wpAny_fieldsOf ho hd ?_)
  dsimp only
  refine wpAny_bind (wpAny_setEntries_of hoa hda hfa ?_)
  rw [if_neg (by rw [hn]; simp)]
  refine wpAny_bind (wpAny_seqItems hot hdt ?_)
  have e1 : (ps.map fun (p : Nat) => Value.int (p : Int) 0).toArray[i]? = some (Value.int (pl : Int) 0) := by simp [hp]
  simp only [Int.toNat_natCast, e1]
  unfold setNextDrawn
  refine wpAny_bind (wpAny_bind (wpAny_setState_of hoa hda hfa ?_))
  dsimp only
  rw [if_neg (by simp), he]
  refine wpAny_pure (wpAny_bind (wpAny_setField ho hd (by simp) (wpAny_pure ⟨x, rfl, wpAny_pure (q _ ⟨_, Heap.get?_update_self _ ho (Obj.isFreed_of_fields (Obj.data_mapFields hd _)), (Obj.cls_mapFields ..).trans hc, ?_⟩ (Heap.SameBut.update ..))⟩)))
  rw [Obj.data_mapFields hd]
  simp [rawInt]
theorem endD {tp : Addr} {ot : Obj} {ps : List Nat} {c : Nat} (hh : A.handled = none) (hit : IsIt s.heap I a (.ref tp) i n ep) (hs : SetAt s.heap a es ep t) (hn : es.size = n) (hot : s.heap.get? tp = some ot) (hdt : ot.data = .seq (ps.map fun (p : Nat) => Value.int (p : Int) 0).toArray c) (hp : ps[i]? = none)
    (q : ∀ h', Heap.ExtBut I s.heap h' → Q none { s with heap := h' }) : wpAny (model P w) A (pyNext (.ref I)) Q E s := by
  obtain ⟨o, ho, hc, hd⟩ := id hit
  obtain ⟨oa, hoa, hxa, hda, hfa⟩ := hs
  unfold pyNext
  refine wpAny_bind (wpAny_attempt (wpAny_callSpecial?_slot (name := Str.ofString "__next__") hit.ty sI_next (wpAny_call_entry sI_next hit.ty sI_entry ?_ (sI_args _))))
  unfold Builtin.«set_iterator.__next__»
  refine wpAny_bind (wpAny_pure ?_)
  refine wpAny_bind (wpAny_fieldsOf ho hd ?_)
  dsimp only
  refine wpAny_bind (wpAny_setEntries_of hoa hda hfa ?_)
  rw [if_neg (by rw [hn]; simp)]
  refine wpAny_bind (wpAny_seqItems hot hdt ?_)
  have e1 : (ps.map fun (p : Nat) => Value.int (p : Int) 0).toArray[i]? = none := by simpa using hp
  simp only [Int.toNat_natCast, e1]
  have d1 := Heap.get?_update_self (Obj.mapFields (·.setIfInBounds 0 (rawInt 0))) ho (Obj.isFreed_of_fields (Obj.data_mapFields hd _))
  refine wpAny_bind (wpAny_setField ho hd (by simp) (wpAny_bind (wpAny_setField d1 (Obj.data_mapFields hd _) (by simp) (stop_it (I := I) hh fun h' eb => q h' fun b o hb e => eb b o hb ?_))))
  exact (Heap.get?_update_other _ _ (Ne.symm hb)).trans ((Heap.get?_update_other _ _ (Ne.symm hb)).trans e)
end
end ST
end L2
namespace L2
namespace ST
open PySem PyProof.Rows
theorem sI_iter : PySem.Slot "set_iterator" "__iter__" "set_iterator.__iter__" :=
  .of (owner := "set_iterator") (n := "__iter__") (by rw [typeLookup_type, builtinLookup_eq_fast]; kernel_rfl) (by decide +kernel) (by decide +kernel) (by decide +kernel) (by first | exact .inr (by decide +kernel) | exact .inl (by decide +kernel)) (by rw [isSubtype_type]; kernel_rfl)
theorem sI_iterE : entryFor table "set_iterator.__iter__" = some Builtin.«dict_keyiterator.__iter__» := entryFor_alias (id' := "dict_keyiterator.__iter__") (by kernel_rfl) rfl (by decide +kernel) (by kernel_rfl)
theorem sI_iterA (a : Value) : argsOk "set_iterator.__iter__" ⟨[a], []⟩ := by
  unfold argsOk
  rw [signature?_of (id := "set_iterator.__iter__") (n := ['_', '_', 'r', 'e', 't', 'i', '_', '_']) (o := ['r', 'o', 't', 'a', 'r', 'e', 't', 'i', '_', 't', 'e', 's']) (by kernel_rfl) sI_own]
  kernel_rfl
end ST
end L2
namespace L2
namespace ST
open PySem PyProof.Rows
theorem cons_erase {α : Type} : ∀ (l : List α) (i : Nat) (x : α), l[i]? = some x → (x :: l.eraseIdx i).Perm l
  | [], _, _, h => by simp at h
  | y :: l, 0, x, h => by
    simp only [List.getElem?_cons_zero, Option.some.injEq] at h
    subst h
    exact .refl _
  | y :: l, i + 1, x, h => by
    have := cons_erase l i x (by simpa using h)
    rw [List.eraseIdx_cons_succ]
    exact (List.Perm.swap _ _ _).trans (this.cons y)
theorem pick_go {α : Type} (f : Nat → Nat) : ∀ (n k : Nat) (l : List α) (out : Array α), n = l.length → (pickOrder.go f n k l out).toList.Perm (out.toList ++ l)
  | 0, k, l, out, h => by
    have : l = [] := List.length_eq_zero_iff.mp h.symm
    subst this
    unfold pickOrder.go
    rw [List.append_nil]
  | n + 1, k, l, out, h => by
    unfold pickOrder.go
    have hlt : f k % l.length < l.length := Nat.mod_lt _ (by omega)
    rw [List.getElem?_eq_getElem hlt]
    have ce := cons_erase l (f k % l.length) l[f k % l.length] (List.getElem?_eq_getElem hlt)
    have ih := pick_go f n (k + 1) (l.eraseIdx (f k % l.length)) (out.push l[f k % l.length]) (by rw [List.length_eraseIdx_of_lt hlt]; omega)
    refine ih.trans ?_
    rw [Array.toList_push, List.append_assoc]
    exact List.Perm.append_left _ ce
theorem pick_perm {α : Type} (f : Nat → Nat) (xs : Array α) : (pickOrder f xs).toList.Perm xs.toList := by
  have := pick_go f xs.size 0 xs.toList #[] (by simp)
  unfold pickOrder
  simpa using this
section
variable {P : Program} {w : World} {A : Around} {E : Value → Shared → Prop} {s : Shared} {I a : Addr} {slot i n ep : Nat} {es : Array (Int × Value)} {t : SetTable}
theorem any_choose {src : Source} {k : Nat} {Q : Nat → Shared → Prop} (hn : k ≠ 0) (q : Q (w.draws src (s.drawn.get src) % k) { s with drawn := s.drawn.bump src }) : wpAny (model P w) A (choose src k) Q E s := by
  intro Γ p hΓ
  unfold choose
  rw [Sem.wp_choose]
  exact ⟨hn, q⟩
theorem order_ok {α : Type} {Q : List α → Shared → Prop} : ∀ (k : Nat) (l : List α) (s : Shared), k = l.length → (∀ ys d, ys.Perm l → Q ys { s with drawn := d }) → wpAny (model P w) A (drawOrder k l) Q E s
  | 0, l, s, h, q => by
    have : l = [] := List.length_eq_zero_iff.mp h.symm
    subst this
    unfold drawOrder
    exact wpAny_pure (q [] s.drawn (.refl _))
  | k + 1, [], s, h, q => by simp at h
  | k + 1, x :: l, s, h, q => by
    unfold drawOrder
    refine wpAny_bind (any_choose (by simp) ?_)
    have hlt : w.draws .order (s.drawn.get .order) % (x :: l).length < (x :: l).length := Nat.mod_lt _ (by simp)
    generalize w.draws .order (s.drawn.get .order) % (x :: l).length = j at hlt ⊢
    rw [List.getElem?_eq_getElem hlt]
    have ce := cons_erase (x :: l) j (x :: l)[j] (List.getElem?_eq_getElem hlt)
    refine wpAny_bind (order_ok k _ _ (by rw [List.length_eraseIdx_of_lt hlt]; omega) fun ys d hp => wpAny_pure (q _ d ((hp.cons _).trans ce)))
theorem ask_text {Q : Bool → Shared → Prop} (q : Q (w.params.followText "set-order") s) : wpAny (model P w) A setsByText Q E s := by
  unfold setsByText
  exact wpAny_bind (wpAny_askSetting (wpAny_pure q))
/-- the next one, by the order that the text gives -/
theorem nx_text {R : Option (Value × Nat) → Shared → Prop} (hb : w.params.followText "set-order" = true) (hs : SetAt s.heap a es ep t) (q : R (((pickOrder (w.params.setOrder a ep) es)[i]?).map fun e => (e.2, slot)) s) : wpAny (model P w) A (setNext a slot i ep) R E s := by
  obtain ⟨o, ho, hx, hd, hf⟩ := hs
  unfold setNext
  refine wpAny_bind (wpAny_setState_of ho hd hf (wpAny_bind (ask_text ?_)))
  rw [hb, if_pos rfl, if_neg (by simp)]
  unfold setWalk
  refine wpAny_bind (wpAny_bind (wpAny_setState_of ho hd hf (wpAny_bind (ask_text ?_))))
  rw [hb, if_pos rfl]
  exact wpAny_bind (wpAny_askSetting (wpAny_pure (wpAny_pure q)))
/-- the next one, by the places of a plain table -/
theorem nx_place {R : Option (Value × Nat) → Shared → Prop} (hb : w.params.followText "set-order" = false) (hl : t.led = true) (hp : (!t.plain && decide (es.size > 1)) = false) (hs : SetAt s.heap a es ep t)
    (q : R (match es[SetTable.below t.place slot]?, t.place[SetTable.below t.place slot]? with | some (_, x), some j => some (x, j + 1) | _, _ => none) s) : wpAny (model P w) A (setNext a slot i ep) R E s := by
  obtain ⟨o, ho, hx, hd, hf⟩ := hs
  unfold setNext
  refine wpAny_bind (wpAny_setState_of ho hd hf (wpAny_bind (ask_text ?_)))
  rw [hb, if_neg Bool.false_ne_true]
  dsimp only
  refine wpAny_ite_split (fun c => absurd (show (!t.plain && decide (es.size > 1)) = true from c) (by rw [hp]; exact Bool.false_ne_true)) fun _ => ?_
  refine wpAny_bind ?_
  show wpAny (model P w) A (if (!t.led && !es.isEmpty) = true then unsupported "set:maker-not-led" else pure ()) _ _ _
  rw [hl, if_neg (by simp)]
  exact wpAny_pure (wpAny_pure q)
theorem self_it {first : Value} {Q : Value → Shared → Prop} (hit : IsIt s.heap I a first i n ep) (q : Q (.ref I) s) : wpAny (model P w) A (pyIter (.ref I)) Q E s := by
  refine wpAny_pyIter_slot hit.ty sI_iter (wpAny_call_entry sI_iter hit.ty sI_iterE ?_ (sI_iterA _))
  show wpAny (model P w) _ (ret (.ref I)) _ _ s
  exact wpAny_pure ⟨_, rfl, "set_iterator", _, hit.ty, sI_next.lookup, q⟩
/-- the walk by the text's order -/
theorem walk_text (hh : A.handled = none) (hb : w.params.followText "set-order" = true) (hne : a ≠ I) : WalksS P w A I [I, a] [I] (fun x y => y = x) es.size (fun i v => ((pickOrder (w.params.setOrder a ep) es).toList.map (·.2))[i]? = some v) (fun i s => IsIt s.heap I a (.int (0 : Nat) 0) i es.size ep ∧ SetAt s.heap a es ep t) where
  sub := fun b hb => by simp at hb; simp [hb]
  grefl := fun _ => rfl
  gtrans := fun _ _ _ h1 h2 => h2.trans h1
  frame := fun i s h' tk st _ k => ⟨st.1.at' fun o e => k I (by simp) o e, st.2.at' fun o e => k a (by simp) o e⟩
  item := fun i s Q E hi st q => by
    have hsz : (pickOrder (w.params.setOrder a ep) es).size = es.size := by simpa using (pick_perm (w.params.setOrder a ep) es).length_eq
    have hi' : i < (pickOrder (w.params.setOrder a ep) es).size := by omega
    refine nextI (nx := 0) (x := ((pickOrder (w.params.setOrder a ep) es)[i]'hi').2) st.1 st.2 rfl (fun A R E r => nx_text hb st.2 (by rw [Array.getElem?_eq_getElem hi']; exact r)) fun h' it' sb => ?_
    refine q _ { s with heap := h' } (by simp [hi']) ⟨it', st.2.at' fun o e => by rw [sb.2 a hne]; exact e⟩ ⟨fun b o hb e => by rw [sb.2 b fun z => hb (by simp [z])]; exact e, rfl, rfl, rfl, Nat.le_refl _⟩
  done := fun s Q E st q => by
    have hsz : (pickOrder (w.params.setOrder a ep) es).size = es.size := by simpa using (pick_perm (w.params.setOrder a ep) es).length_eq
    refine endI hh st.1 st.2 rfl (fun A R E r => nx_text hb st.2 (by rw [Array.getElem?_eq_none (by omega)]; exact r)) fun h' eb => ?_
    exact q { s with heap := h' } ⟨fun b o hb e => eb b o (fun z => hb (by simp [z])) e, rfl, rfl, rfl, Nat.le_refl _⟩
  self := fun i s Q E st q => self_it st.1 q
def slotAt (xs : Array Nat) : Nat → Nat
  | 0 => 0
  | i + 1 => xs.getD i 0 + 1
theorem slotAt_below {xs : Array Nat} (h : Rs xs) : ∀ {i : Nat}, i ≤ xs.size → SetTable.below xs (slotAt xs i) = i
  | 0, _ => blw_zero h
  | i + 1, hi => blw_next h hi
/-- the walk by the places -/
theorem walk_place (hh : A.handled = none) (hb : w.params.followText "set-order" = false) (hl : t.led = true) (hp : (!t.plain && decide (es.size > 1)) = false) (hr : Rs t.place) (hz : t.place.size = es.size) (hne : a ≠ I) : WalksS P w A I [I, a] [I] (fun x y => y = x) es.size (fun i v => (es.toList.map (·.2))[i]? = some v) (fun i s => IsIt s.heap I a (.int (slotAt t.place i : Nat) 0) i es.size ep ∧ SetAt s.heap a es ep t) where
  sub := fun b hb => by simp at hb; simp [hb]
  grefl := fun _ => rfl
  gtrans := fun _ _ _ h1 h2 => h2.trans h1
  frame := fun i s h' tk st _ k => ⟨st.1.at' fun o e => k I (by simp) o e, st.2.at' fun o e => k a (by simp) o e⟩
  item := fun i s Q E hi st q => by
    have hi' : i < t.place.size := by omega
    have eg : t.place.getD i 0 = t.place[i] := by simp [Array.getD, hi']
    refine nextI (nx := slotAt t.place (i + 1)) (x := (es[i]'hi).2) st.1 st.2 rfl (fun A R E r => nx_place hb hl hp st.2 (by
      rw [slotAt_below hr (by omega), Array.getElem?_eq_getElem hi, Array.getElem?_eq_getElem hi', ← eg]
      exact r)) fun h' it' sb => ?_
    refine q _ { s with heap := h' } (by simp [hi]) ⟨it', st.2.at' fun o e => by rw [sb.2 a hne]; exact e⟩ ⟨fun b o hb e => by rw [sb.2 b fun z => hb (by simp [z])]; exact e, rfl, rfl, rfl, Nat.le_refl _⟩
  done := fun s Q E st q => by
    refine endI hh st.1 st.2 rfl (fun A R E r => nx_place hb hl hp st.2 (by
      rw [slotAt_below hr (by omega), Array.getElem?_eq_none (Nat.le_refl _)]
      exact r)) fun h' eb => ?_
    exact q { s with heap := h' } ⟨fun b o hb e => eb b o (fun z => hb (by simp [z])) e, rfl, rfl, rfl, Nat.le_refl _⟩
  self := fun i s Q E st q => self_it st.1 q
/-- the walk by places that were drawn -/
theorem walk_drawn {tp : Addr} {ps : List Nat} (hh : A.handled = none) (hq : ps.Perm (List.range es.size)) (hne : a ≠ I) (hnt : tp ≠ I) : WalksS P w A I [I, a, tp] [I] (fun x y => y = x) es.size (fun i v => (ps.map fun p => (es[p]?.map (·.2)).getD .none)[i]? = some v)
    (fun i s => IsIt s.heap I a (.ref tp) i es.size ep ∧ SetAt s.heap a es ep t ∧ ∃ ot c, s.heap.get? tp = some ot ∧ ot.data = .seq (ps.map fun (p : Nat) => Value.int (p : Int) 0).toArray c) where
  sub := fun b hb => by simp at hb; simp [hb]
  grefl := fun _ => rfl
  gtrans := fun _ _ _ h1 h2 => h2.trans h1
  frame := fun i s h' tk st _ k => by
    obtain ⟨z1, z2, ot, c, z3, z4⟩ := st
    exact ⟨z1.at' fun o e => k I (by simp) o e, z2.at' fun o e => k a (by simp) o e, ot, c, k tp (by simp) _ z3, z4⟩
  item := fun i s Q E hi st q => by
    obtain ⟨z1, z2, ot, c, z3, z4⟩ := st
    have hl : ps.length = es.size := by simpa using hq.length_eq
    have hi' : i < ps.length := by omega
    have hm : ps[i] < es.size := List.mem_range.mp (hq.mem_iff.mp (List.getElem_mem hi'))
    refine nextD (pl := ps[i]) (hv := (es[ps[i]]'hm).1) (x := (es[ps[i]]'hm).2) z1 z2 rfl z3 z4 (List.getElem?_eq_getElem hi') (by rw [Array.getElem?_eq_getElem hm]) fun h' it' sb => ?_
    refine q _ { s with heap := h' } (by rw [List.getElem?_map, List.getElem?_eq_getElem hi']; simp [hm]) ⟨it', z2.at' fun o e => by rw [sb.2 a hne]; exact e, ot, c, by rw [sb.2 tp hnt]; exact z3, z4⟩ ⟨fun b o hb e => by rw [sb.2 b fun z => hb (by simp [z])]; exact e, rfl, rfl, rfl, Nat.le_refl _⟩
  done := fun s Q E st q => by
    obtain ⟨z1, z2, ot, c, z3, z4⟩ := st
    have hl : ps.length = es.size := by simpa using hq.length_eq
    refine endD hh z1 z2 rfl z3 z4 (List.getElem?_eq_none (by omega)) fun h' eb => ?_
    exact q { s with heap := h' } ⟨fun b o hb e => eb b o (fun z => hb (by simp [z])) e, rfl, rfl, rfl, Nat.le_refl _⟩
  self := fun i s Q E st q => self_it st.1 q
end
end ST
end L2
namespace L2
namespace ST
open PySem PyProof.Rows
section
variable {P : Program} {w : World} {A : Around} {E : Value → Shared → Prop} {s : Shared} {a : Addr} {ep : Nat} {es : Array (Int × Value)} {t : SetTable}
theorem drawn_perm {ps : List Nat} (h : ps.Perm (List.range es.size)) : (ps.map fun p => (es[p]?.map (·.2)).getD .none).Perm (es.toList.map (·.2)) := by
  refine (h.map _).trans (List.Perm.of_eq ?_)
  apply List.ext_getElem
  · simp
  · intro i h1 h2
    have hi : i < es.size := by simpa using h2
    simp [hi]
/-- iter(set) -/
theorem iter_G (hh : A.handled = none) (hs : SetAt s.heap a es ep t) (ht : Tb (ledOf w) t) (hz : es.size ≤ sizeLine) {Q : Value → Shared → Prop}
    (q : ∀ (s' : Shared) (I : Addr) (fp : List Addr) (vs : List Value) (St : Nat → Shared → Prop), WalksS P w A I fp [I] (fun x y => y = x) es.size (fun i v => vs[i]? = some v) St → vs.Perm (es.toList.map (·.2)) → St 0 s' → (∀ b o, s.heap.get? b = some o → s'.heap.get? b = some o) →
      s'.gens = s.gens → s'.os = s.os → s.toks ≤ s'.toks → s.heap.objs.size ≤ I → (∀ b ∈ fp, b = a ∨ s.heap.objs.size ≤ b) → Q (.ref I) s') : wpAny (model P w) A (pyIter (.ref a)) Q E s := by
  obtain ⟨o, ho, hx, hd, hf⟩ := id hs
  have la : a < s.heap.objs.size := Heap.lt_size ho
  have ty : s.TypeIs (.ref a) "set" := ⟨o, ho, hx.1⟩
  have hps : t.place.size = es.size := by
    unfold SetTable.fits at hf
    rw [Bool.and_eq_true, beq_iff_eq] at hf
    exact hf.1
  refine wpAny_pyIter_slot ty F.slot_set_iter (wpAny_call_entry F.slot_set_iter ty sT_entry ?_ (F.args_set_iter_1 _))
  unfold Builtin.«frozenset.__iter__» Builtin.Frozenset.slot0
  refine wpAny_bind (wpAny_bind (wpAny_pure (wpAny_pure ?_)))
  unfold Builtin.Frozenset.sizeOf
  refine wpAny_bind (wpAny_bind (wpAny_setEntries_of ho hd hf (wpAny_pure ?_)))
  unfold setDrawn
  refine wpAny_bind (wpAny_bind (wpAny_setState_of ho hd hf (wpAny_bind (ask_text (wpAny_pure ?_)))))
  cases hb : w.params.followText "set-order" with
  | true =>
    rw [if_neg (by simp)]
    refine wpAny_bind (wpAny_pure (wpAny_bind (wpAny_setEpoch_of ho hd hf ?_)))
    unfold newFields
    refine wpAny_bind (wpAny_newObj_type (wpAny_pure ⟨_, rfl, "set_iterator", _, ⟨_, Heap.get?_push_size _ rfl, rfl⟩, sI_next.lookup, ?_⟩) (by size_fits))
    refine q _ s.heap.objs.size _ _ _ (walk_text hh hb (Nat.ne_of_lt la)) ((pick_perm (w.params.setOrder a ep) es).map _) ⟨⟨_, Heap.get?_push_size _ rfl, rfl, by simp [rawInt]⟩, hs.at' fun o e => Heap.get?_push_of_some _ e⟩ (fun b o e => Heap.get?_push_of_some _ e) rfl rfl (Nat.le_refl _) (Nat.le_refl _) fun b hb' => ?_
    rcases List.mem_cons.mp hb' with e | hb'
    · rw [e]; exact .inr (Nat.le_refl _)
    · exact .inl (List.mem_singleton.mp hb')
  | false =>
    have hled : t.led = true := by rw [ht.1]; unfold ledOf; rw [hb]; rfl
    cases hp : (!t.plain && decide (es.size > 1)) with
    | true =>
      dsimp only
      refine wpAny_ite_split (fun _ => ?_) fun c => absurd (show (!false && (!t.plain && decide (es.size > 1))) = true by rw [hp]; rfl) c
      refine wpAny_bind (order_ok es.size (List.range es.size) s (by simp) fun ps d hq => ?_)
      have hpl : ps.length = es.size := by simpa using hq.length_eq
      refine wpAny_bind (wpAny_newTuple ?_ (by rw [List.length_map, hpl]; exact hz))
      have ho2 : (s.heap.push { cls := .type "tuple", data := .seq (ps.map fun (p : Nat) => rawInt p).toArray }).get? a = some o := Heap.get?_push_of_some _ ho
      refine wpAny_bind (wpAny_setEpoch_of ho2 hd hf ?_)
      unfold newFields
      refine wpAny_bind (wpAny_newObj_type (wpAny_pure ⟨_, rfl, "set_iterator", _, ⟨_, Heap.get?_push_size _ rfl, rfl⟩, sI_next.lookup, ?_⟩) (by size_fits))
      have sz : (s.heap.push { cls := .type "tuple", data := .seq (ps.map fun (p : Nat) => rawInt p).toArray }).objs.size = s.heap.objs.size + 1 := Heap.size_push _ _
      refine q _ (s.heap.push { cls := .type "tuple", data := .seq (ps.map fun (p : Nat) => rawInt p).toArray }).objs.size _ _ _ (walk_drawn (a := a) (tp := s.heap.objs.size) (ep := ep) (t := t) hh hq ?_ ?_) (drawn_perm hq) ⟨⟨_, Heap.get?_push_size _ rfl, rfl, by simp [rawInt]⟩, ?_, _, 0, Heap.get?_push_of_some _ (Heap.get?_push_size _ rfl), ?_⟩ (fun b o e => Heap.get?_push_of_some _ (Heap.get?_push_of_some _ e)) rfl rfl (Nat.le_refl _) ?_ fun b hb' => ?_
      · rw [sz]; exact Nat.ne_of_lt (Nat.lt_succ_of_lt la)
      · rw [sz]; exact Nat.ne_of_lt (Nat.lt_succ_self _)
      · exact (hs.at' fun o e => Heap.get?_push_of_some _ e).at' fun o e => Heap.get?_push_of_some _ e
      · simp [rawInt]
      · rw [sz]; exact Nat.le_succ _
      · rcases List.mem_cons.mp hb' with e | hb'
        · rw [e, sz]; exact .inr (Nat.le_succ _)
        · rcases List.mem_cons.mp hb' with e | hb'
          · exact .inl e
          · rw [List.mem_singleton.mp hb']; exact .inr (Nat.le_refl _)
    | false =>
      dsimp only
      refine wpAny_ite_split (fun c => absurd (show (!false && (!t.plain && decide (es.size > 1))) = true from c) (by rw [hp]; simp)) fun _ => ?_
      refine wpAny_bind (wpAny_pure (wpAny_bind (wpAny_setEpoch_of ho hd hf ?_)))
      unfold newFields
      refine wpAny_bind (wpAny_newObj_type (wpAny_pure ⟨_, rfl, "set_iterator", _, ⟨_, Heap.get?_push_size _ rfl, rfl⟩, sI_next.lookup, ?_⟩) (by size_fits))
      have hr : Rs t.place := by
        cases hpl : t.plain with
        | true => exact ht.2 hpl
        | false =>
          rw [hpl] at hp
          have h1 : ¬ es.size > 1 := by simpa using hp
          unfold Rs
          have : t.place.toList.length ≤ 1 := by simp; omega
          match h : t.place.toList, this with
          | [], _ => exact .nil
          | [x], _ => exact List.pairwise_singleton _ _
      refine q _ s.heap.objs.size _ _ _ (walk_place (ep := ep) hh hb hled hp hr hps (Nat.ne_of_lt la)) (.refl _) ⟨⟨_, Heap.get?_push_size _ rfl, rfl, by simp [rawInt, slotAt]⟩, hs.at' fun o e => Heap.get?_push_of_some _ e⟩ (fun b o e => Heap.get?_push_of_some _ e) rfl rfl (Nat.le_refl _) (Nat.le_refl _) fun b hb' => ?_
      rcases List.mem_cons.mp hb' with e | hb'
      · rw [e]; exact .inr (Nat.le_refl _)
      · exact .inl (List.mem_singleton.mp hb')
end
end ST
end L2
namespace L2
namespace ST
open PySem PyProof.Rows
section
variable {P : Program} {w : World} {A : Around} {E : Value → Shared → Prop} {s : Shared} {a : Addr} {ep : Nat} {es : Array (Int × Value)} {t : SetTable}
theorem hint_set {r : Addr} {Q : Bool → Shared → Prop} (hT : s.TypeIs (.ref r) "set") (h : Q false s) : wpAny (model P w) A (Builtin.List.listLengthHint (.ref r)) Q E s := by
  unfold Builtin.List.listLengthHint
  refine wpAny_bind (wpAny_specialOf hT F.slot_set_len.lookup ?_)
  generalize hid : ("set.__len__" : String) = id1
  wp_delta
  rw [show splitId id1 = some ("set", "__len__") from by subst hid; decide +kernel]
  subst hid
  refine wpAny_bind (wpAny_isInstance (T := "set") (b := true) hT sub_set_self ?_)
  refine wpAny_ite_split (fun c => absurd c (by decide)) fun _ => wpAny_ite_split (fun _ => ?_) fun c => absurd (by decide +kernel) c
  exact wpAny_bind (wpAny_typeOf hT (wpAny_pure h))
/-- all its elements, in some order -/
theorem collect_G {R : List Value → Shared → Prop} (hh : A.handled = none) (hs : SetAt s.heap a es ep t) (ht : Tb (ledOf w) t) (hz : es.size ≤ sizeLine)
    (q : ∀ (s' : Shared) (vs : List Value), vs.Perm (es.toList.map (·.2)) → (∀ b o, s.heap.get? b = some o → s'.heap.get? b = some o) → s'.gens = s.gens → s'.os = s.os → s.heap.objs.size < s'.heap.objs.size → R vs s') : wpAny (model P w) A (collect (.ref a)) R E s := by
  obtain ⟨o, ho, hx, hd, hf⟩ := id hs
  have la : a < s.heap.objs.size := Heap.lt_size ho
  have ty : ∀ s1 : Shared, (∀ o, s.heap.get? a = some o → s1.heap.get? a = some o) → s1.TypeIs (.ref a) "set" := fun s1 k => ⟨o, k o ho, hx.1⟩
  unfold collect
  refine wpAny_bind (wpAny_runValue (codeAny_builtin entry_proto_collect' ?_))
  rw [Around.under_plainId F.plain_proto_collect _]
  show wpAny (model P w) A.in1 (newList [] >>= fun z => again (.builtin "list.__iadd__" ⟨[z, .ref a], []⟩)) _ _ s
  refine wpAny_bind (wpAny_newObj_type (wpAny_pure ⟨plainId_quiet F.plain_list_iadd _, codeAny_builtin entry_list_iadd' ?_⟩))
  rw [Around.under_plainId F.plain_list_iadd _]
  generalize hS : s.heap.objs.size = S at la ⊢
  have k1 : ∀ b o, s.heap.get? b = some o → (s.heap.push { cls := .type "list", data := .seq ([] : List Value).toArray }).get? b = some o := fun b o e => Heap.get?_push_of_some _ e
  have e1 : (s.heap.push { cls := .type "list", data := .seq ([] : List Value).toArray }).get? S = some { cls := .type "list", data := .seq #[] } := by rw [← hS]; exact Heap.get?_push_size _ rfl
  have z1 : S < (s.heap.push { cls := .type "list", data := .seq ([] : List Value).toArray }).objs.size := Heap.lt_size e1
  generalize s.heap.push { cls := .type "list", data := .seq ([] : List Value).toArray } = h1 at k1 e1 z1 ⊢
  show wpAny (model P w) A.in1 (Builtin.List.listExtendWith (.ref S) (.ref a) (.ref S)) _ _ { s with heap := h1 }
  unfold Builtin.List.listExtendWith
  refine wpAny_bind (wpAny_typeOf (ty { s with heap := h1 } (k1 a)) ?_)
  have n1 : Builtin.List.listSameRef (.ref S) (.ref a) = false := by
    simp only [Builtin.List.listSameRef, beq_eq_false_iff_ne]
    exact Nat.ne_of_gt la
  have n2 : (Value.type "set" == Value.type "list") = false := by decide
  have n3 : (Value.type "set" == Value.type "tuple") = false := by decide
  simp only [n1, n2, n3, Bool.or_false, Bool.false_eq_true, if_false]
  refine wpAny_bind (iter_G (A := A.in1) (s := { s with heap := h1 }) hh (hs.at' (k1 a)) ht hz fun s2 I fp vs St W pm st k2 g2 o2 tk2 lI hfp => ?_)
  refine wpAny_bind (wpAny_holding (hint_set (ty s2 fun o e => k2 a o (k1 a o e)) ?_))
  have e2 := k2 S _ e1
  have hSI : S ≠ I := Nat.ne_of_lt (Nat.lt_of_lt_of_le z1 lI)
  have hSf : S ∉ fp := fun z => (hfp S z).elim (Nat.ne_of_gt la) fun c => Nat.not_le_of_lt z1 c
  have hvl : vs.length = es.size := by simpa using pm.length_eq
  have key : ∀ (h : Heap) (c : Nat), (∀ b o, b ≠ S → s2.heap.get? b = some o → h.get? b = some o) → h.get? S = some { cls := .type "list", data := .seq #[] c } →
      codeAny (model P w) A (.builtin "list.extend.loop" ⟨[.ref S, .ref I, .ref S], []⟩) (fun r s' => r = .ok (.ret (.ref S)) ∧ ∃ c', s'.heap.get? S = some { cls := .type "list", data := .seq vs.toArray c' } ∧ (∀ b o, s.heap.get? b = some o → s'.heap.get? b = some o) ∧ s'.gens = s.gens ∧ s'.os = s.os) { s2 with heap := h } := by
    intro h c kh eh
    refine codeAny_extend_loopS W hz S hSf (.ref S) es.size 0 _ #[] c rfl (Nat.zero_le _) (W.frame 0 s2 h s2.toks st (Nat.le_refl _) fun b hb o e => kh b o (fun z => hSf (z ▸ hb)) e) eh (ItemsOf.nil _) fun s' acc c' m eS hacc => ?_
    have ea : acc = vs.toArray := by
      apply Array.ext
      · rw [hacc.1]; simpa using hvl.symm
      · intro i h1 h2
        have this : vs[i]? = some acc[i] := hacc.2 i acc[i] (Array.getElem?_eq_getElem h1)
        rw [List.getElem?_eq_getElem (by simpa using h2)] at this
        injection this with this
        rw [← this]
        simp
    subst ea
    refine ⟨rfl, c', eS, fun b o e => m.heap b o (fun z => ?_) (kh b o (fun z => ?_) (k2 b o (k1 b o e))), m.gens.trans g2, m.os.trans o2⟩
    · have lb : b < S := by rw [← hS]; exact Heap.lt_size e
      rcases List.mem_cons.mp z with z | z
      · exact Nat.ne_of_lt lb z
      · exact Nat.ne_of_lt (Nat.lt_of_lt_of_le (Nat.lt_trans lb z1) lI) (List.mem_singleton.mp z)
    · have lb : b < S := by rw [← hS]; exact Heap.lt_size e
      exact Nat.ne_of_lt lb z
  have fin : ∀ (h : Heap) (c : Nat), (∀ b o, b ≠ S → s2.heap.get? b = some o → h.get? b = some o) → h.get? S = some { cls := .type "list", data := .seq #[] c } →
      codeAny (model P w) A (.builtin "list.extend.loop" ⟨[.ref S, .ref I, .ref S], []⟩) (fun r s' => match r with
        | .ok (.ret v) => wpAny (model P w) A (match v with
          | .ref a => load a >>= fun d => match d.data with
            | .seq xs _ => pure xs.toList
            | _ => unsupported "internal:collect"
          | _ => unsupported "internal:collect") R E s'
        | .ok _ => False
        | .error e => E e s') { s2 with heap := h } := by
    intro h c kh eh
    refine codeAny_mono (key h c kh eh) fun r s' y => ?_
    obtain ⟨rfl, c', eS, kp, gg, oo⟩ := y
    show wpAny (model P w) A (load S >>= _) _ _ s'
    refine wpAny_bind (wpAny_load eS (wpAny_pure ?_))
    exact q s' vs pm kp gg oo (by rw [hS]; exact Heap.lt_size eS)
  refine wpAny_ite_split (fun _ => ?_) fun _ => wpAny_pure ⟨plainId_quiet F.plain_extend_loop _, fin s2.heap 0 (fun b o _ e => e) e2⟩
  refine wpAny_bind (wpAny_rule (wpAny_bind ?_))
  show wpAny (model P w) A.in1 (updateSeq S (·.push .none) >>= fun _ => updateSeq S (·.pop)) _ _ _
  refine wpAny_bind (wpAny_updateSeq e2 rfl ?_)
  have e3 := Heap.get?_update_self (Obj.mapSeq (·.push Value.none)) e2 rfl
  refine wpAny_updateSeq (hz := by seq_fits) e3 rfl ?_
  have e4 := Heap.get?_update_self (Obj.mapSeq (·.pop)) e3 rfl
  exact wpAny_pure ⟨plainId_quiet F.plain_extend_loop _, fin _ _ (fun b o hb e => (Heap.get?_update_other _ _ (Ne.symm hb)).trans ((Heap.get?_update_other _ _ (Ne.symm hb)).trans e)) e4⟩
end
end ST
end L2
namespace L2
namespace ST
open PySem PyProof.Rows
def toI : Value → Int
  | .int k _ => k
  | _ => 0
theorem ints_map : ∀ {vs : List Value}, (∀ v ∈ vs, ∃ k u, v = Value.int k u) → IntsAre vs (vs.map toI)
  | [], _ => .nil
  | v :: vs, h => by
    obtain ⟨k, u, rfl⟩ := h v List.mem_cons_self
    exact .cons k u (ints_map fun x hx => h x (List.mem_cons_of_mem _ hx))
section
variable {P : Program} {w : World} {A : Around} {E : Value → Shared → Prop} {s : Shared} {a : Addr}
/-- sorted(set) -/
theorem sorted_G {S : Int → Bool} {n : Nat} {Q : Value → Shared → Prop} (hh : A.handled = none) (G : SetG P w s.heap a S n) (h64 : n < 64)
    (q : ∀ (s' : Shared) (D : Addr) (out : Array Value) (c : Nat) (ms : List Int), IntsAre out.toList ms → ms.Pairwise (· ≤ ·) → (∀ k, k ∈ ms ↔ S k = true) → ms.length = n → s'.heap.get? D = some (seqObj "list" out c) → s.heap.objs.size ≤ D →
      (∀ b o, s.heap.get? b = some o → s'.heap.get? b = some o) → s'.gens = s.gens → s'.os = s.os → Q (.ref D) s') : wpAny (model P w) A (call (.builtin "sorted") [.ref a]) Q E s := by
  obtain ⟨o, es, ep, t, ho, hx, hd, g1, g2, g3, g4, hn, g5⟩ := G
  have shape : ∀ v ∈ es.toList.map (·.2), ∃ k u, v = Value.int k u := fun v hv => by
    obtain ⟨e, he, rfl⟩ := List.mem_map.mp hv
    obtain ⟨⟨k, hk, _⟩, _⟩ := g1 e he
    obtain ⟨u, hu⟩ := Value.isInt_shape hk
    exact ⟨k, u, hu⟩
  have sl : 4096 ≤ sizeLine := by decide
  have sb : scanBound = 4096 := rfl
  refine Calls.call_function_entry kind_sorted plain_sorted entry_sorted (args_sorted1 _) ?_
  unfold Builtin.«sorted»
  refine wpAny_bind (m := checkCount "sorted" 1 1 _) (wpAny_pure ?_)
  refine wpAny_bind (collect_G (A := A.in1) hh ⟨o, ho, hx, hd, g4⟩ g5 (by omega) fun s1 vs pm kp gg oo lt => ?_)
  have hvl : vs.length = n := by
    have := pm.length_eq
    simp at this
    omega
  have shv : ∀ v ∈ vs, ∃ k u, v = Value.int k u := fun v hv => shape v (pm.mem_iff.mp hv)
  refine wpAny_bind (wpAny_newList ?_ (by omega))
  have eD : (s1.heap.push (seqObj "list" vs.toArray 0)).get? s1.heap.objs.size = some (seqObj "list" vs.toArray 0) := Heap.get?_push_size _ rfl
  refine wpAny_bind (wpAny_holding (wpAny_call_entry (s := { s1 with heap := s1.heap.push (seqObj "list" vs.toArray 0) }) slot_list_sort ⟨_, eD, rfl⟩ entry_list_sort (list_sort_tree eD (ints_map shv) (by omega) fun out ms m1 m2 m3 => ⟨_, rfl, ?_⟩) (args_list_sort _)))
  obtain ⟨c, ec⟩ := sortedHeap_at (out := out) eD
  refine wpAny_pure ⟨_, rfl, q _ _ out c ms m1 m3 (fun k => ?_) ?_ ec (Nat.le_of_lt lt) (fun b o e => ?_) gg oo⟩
  · rw [m2.mem_iff, List.mem_map, g2 k]
    constructor
    · rintro ⟨v, hv, rfl⟩
      obtain ⟨e, he, rfl⟩ := List.mem_map.mp (pm.mem_iff.mp hv)
      obtain ⟨⟨j, hj, _⟩, _⟩ := g1 e he
      obtain ⟨u, hu⟩ := Value.isInt_shape hj
      exact ⟨e, he, by rw [hu]; exact intKind_is _ _ _ _⟩
    · rintro ⟨e, he, hk⟩
      obtain ⟨u, hu⟩ := Value.isInt_shape hk
      exact ⟨e.2, pm.mem_iff.mpr (List.mem_map.mpr ⟨e, he, rfl⟩), by rw [hu]; rfl⟩
  · rw [m2.length_eq, List.length_map]
    exact hvl
  · have lb : b < s1.heap.objs.size := Heap.lt_size (kp b o e)
    have l2 : b < (s1.heap.push (seqObj "list" vs.toArray 0)).objs.size := by rw [Heap.size_push]; exact Nat.lt_succ_of_lt lb
    exact (sortedHeap_old (Nat.ne_of_lt lb) l2).trans (Heap.get?_push_of_some _ (kp b o e))
end
theorem nodup_sub : ∀ {fs ms : List Int}, fs.Nodup → (∀ k ∈ fs, k ∈ ms) → fs.length ≤ ms.length
  | [], _, _, _ => Nat.zero_le _
  | x :: fs, ms, h, hs => by
    rw [List.nodup_cons] at h
    have hx := hs x List.mem_cons_self
    have := nodup_sub (fs := fs) (ms := ms.erase x) h.2 fun k hk => (List.mem_erase_of_ne (fun e : k = x => h.1 (by rw [← e]; exact hk))).mpr (hs k (List.mem_cons_of_mem _ hk))
    rw [List.length_erase_of_mem hx] at this
    have := List.length_pos_of_mem hx
    simp
    omega
/-- a rising list, and what it holds -/
theorem nodup_of_len : ∀ {ms fs : List Int}, fs.Nodup → (∀ k, k ∈ ms ↔ k ∈ fs) → ms.length = fs.length → ms.Nodup
  | [], _, _, _, _ => .nil
  | x :: ms, fs, hf, hm, hl => by
    have hx : x ∈ fs := (hm x).mp List.mem_cons_self
    have le := List.length_erase_of_mem hx
    have hl' : ms.length = (fs.erase x).length := by
      rw [le]
      simp at hl
      omega
    have sub : ∀ k, k ∈ fs.erase x → k ∈ ms := fun k hk => by
      obtain ⟨h1, h2⟩ := hf.mem_erase_iff.mp hk
      rcases List.mem_cons.mp ((hm k).mpr h2) with z | z
      · exact absurd z h1
      · exact z
    by_cases hxm : x ∈ ms
    · exfalso
      -- then ms holds all of fs, but is shorter
      have all : ∀ k ∈ fs, k ∈ ms := fun k hk => by
        by_cases e : k = x
        · rw [e]; exact hxm
        · exact sub k (hf.mem_erase_iff.mpr ⟨e, hk⟩)
      have := nodup_sub hf all
      simp at hl
      omega
    · have hf' := hf.erase x
      refine List.nodup_cons.mpr ⟨hxm, nodup_of_len hf' (fun k => ⟨fun hk => ?_, sub k⟩) hl'⟩
      have h2 := (hm k).mp (List.mem_cons_of_mem _ hk)
      exact hf.mem_erase_iff.mpr ⟨fun e => hxm (e ▸ hk), h2⟩
theorem met_nodup (v : Nat → Int) : ∀ i, (firstMet v i).Nodup
  | 0 => .nil
  | i + 1 => by
    have ih := met_nodup v i
    rw [firstMet_succ]
    unfold step_dedup
    split
    · exact ih
    · rename_i c
      rw [List.nodup_append]
      refine ⟨ih, by simp, fun a ha b hb e => ?_⟩
      rw [List.mem_singleton] at hb
      subst hb
      subst e
      apply c
      rw [List.any_eq_true]
      exact ⟨_, ha, by simp⟩
theorem met_mem (ns : List Int) (k : Int) : metS (fun i => ns.getD i 0) ns.length k = true ↔ k ∈ ns := by
  show (firstMet (fun i => ns.getD i 0) ns.length).any (· == k) = true ↔ _
  rw [firstMet_any]
  have e : (List.range ns.length).map (fun i => ns.getD i 0) = ns := by
    apply List.ext_getElem
    · simp
    · intro i h1 h2
      simp [List.getElem?_eq_getElem h2]
  rw [e, List.any_eq_true]
  constructor
  · rintro ⟨x, hx, z⟩
    rw [beq_iff_eq] at z
    rw [← z]
    exact hx
  · intro h
    exact ⟨k, h, by simp⟩
end ST
end L2
namespace L2
open PySem PySem.Spec PyProof.Rows
theorem bt_set : bootBuiltins "set" = some (.type "set") := by decide +kernel
section
variable {X : Cx}
theorem Inv.drw {pins : List (Addr × Obj)} {σ : List (Option V)} {H : Hp} {s : Shared} {d : Drawn} (I : Inv X pins σ H s) : Inv X pins σ H { s with drawn := d } :=
  ⟨I.ok, I.os, I.bare, I.base, I.loc, I.cell, I.free, I.freeC, I.pin, I.hok, I.len⟩
/-- sorted(set(e)), e a list of ints: those in it, once each, rising -/
def tSortSet (K : PySem.W.Frag) (te : TE) : TE := fun σ H Q => te σ H fun x H1 => ∃ (a : Addr) (ns : List Int), x = .ref a ∧ SqL K H1 a (ns.map V.int) ∧ ns.length ≤ 4000 ∧ (∀ v ∈ ns, 1 ≤ v ∧ v ≤ 63) ∧
  ∀ (l : Addr) (ms : List Int), H1 l = none → ms.Pairwise (· < ·) → (∀ k, k ∈ ms ↔ k ∈ ns) → Q (.ref l) (upd H1 l (.lst (ms.map V.int)))
theorem pe_sortset {e : Expr} {te : TE} {p1 p2 q1 q2 : Pos} (hc : X.calm = true) (hg1 : Gl X "sorted") (hm1 : X.mg "sorted" = none) (hg2 : Gl X "set") (hm2 : X.mg "set" = none) (he : PE X e te)
    (hs : starEach [e] X.env = [(false, eval e X.env)] := by rfl) (hs2 : starEach [Expr.Call (.Name "set" p2) [e] [] q2] X.env = [(false, eval (.Call (.Name "set" p2) [e] [] q2) X.env)] := by rfl) :
    PE X (.Call (.Name "sorted" p1) [.Call (.Name "set" p2) [e] [] q2] [] q1) (tSortSet X.K te) := by
  intro pins s σ H Q I h
  refine wpAny_Call_Name_kw (ld_blt I hg1 hm1 bt_sorted ?_ (by decide) (by decide))
  refine PyProof.Rows.callWith_builtin1 ?_ hs2 rfl
  rw [hs2]
  show wpAny _ _ (spliced ((false, eval (.Call (.Name "set" p2) [e] [] q2) X.env) :: backTo q1 [])) _ _ s
  refine Calls.spliced_cons (wpAny_Call_Name_kw (ld_blt I hg2 hm2 bt_set ?_ (by decide) (by decide)))
  refine PyProof.Rows.callWith_type1 ?_ hs rfl
  rw [hs]
  show wpAny _ _ (spliced ((false, eval e X.env) :: backTo q2 [])) _ _ s
  refine Calls.spliced_cons (thn (he pins s σ H _ I h) fun u s1 ⟨x, H1, I1, r1, a, ns, e1, hq, hz, hb, q⟩ => Calls.spliced_nil ?_)
  subst e1
  cases r1
  obtain ⟨its, r', pl, hz'⟩ := I1.list hq
  have hlen := r'.length
  rw [List.length_map] at hlen
  have hh : X.A.handled = none := I.ok.hd hc
  refine ST.call_G (P := X.prog) (w := X.w) (its := its.toArray) (ns := ns) hh pl.isList (by simpa using intsAre_of r') (by simp [scanBound]; omega) fun h' tk G kp => ?_
  refine Calls.spliced_nil ?_
  have nd := ST.met_nodup (fun i => ns.getD i 0) its.toArray.size
  have mm : ∀ k, ST.metS (fun i => ns.getD i 0) its.toArray.size k = true ↔ k ∈ ns := fun k => by
    have := ST.met_mem ns k
    rw [hlen] at this
    simpa using this
  have m2 : ∀ k, k ∈ firstMet (fun i => ns.getD i 0) its.toArray.size ↔ k ∈ ns := fun k => by
    rw [← mm k]
    show _ ↔ (firstMet (fun i => ns.getD i 0) its.toArray.size).any (· == k) = true
    rw [List.any_eq_true]
    exact ⟨fun z => ⟨k, z, by simp⟩, fun ⟨x, hx, z⟩ => by rw [beq_iff_eq] at z; rw [← z]; exact hx⟩
  have few : (firstMet (fun i => ns.getD i 0) its.toArray.size).length ≤ 63 := by
    have := ST.nodup_sub (ms := (List.range 63).map fun (i : Nat) => (i : Int) + 1) nd fun k hk => by
      obtain ⟨h1, h2⟩ := hb k ((m2 k).mp hk)
      exact List.mem_map.mpr ⟨(k - 1).toNat, List.mem_range.mpr (by omega), by omega⟩
    simpa using this
  have I2 : Inv X pins σ H1 { s1 with heap := h', toks := tk } := I1.kept (t' := tk) kp
  refine ST.sorted_G (s := { s1 with heap := h', toks := tk }) hh G (by omega) fun s2 D out c ms i1 i2 i3 i4 eD lD kp2 gg oo => ?_
  obtain ⟨h2, g2, d2, tk2, os2⟩ := s2
  have eg : g2 = s1.gens := gg
  have eo : os2 = s1.os := oo
  subst eg
  subst eo
  have k2 : ∀ b o, h'.get? b = some o → h2.get? b = some o := kp2
  have hD : h2.get? D = some (seqObj "list" out c) := eD
  have lo : h'.objs.size ≤ D := lD
  have msn : ms.Nodup := ST.nodup_of_len nd (fun k => by rw [i3 k, mm k, m2 k]) i4
  have rise : ms.Pairwise (· < ·) := by
    refine (i2.and msn).imp ?_
    intro a b hab
    have h1 : a ≤ b := hab.1
    have h2 : a ≠ b := hab.2
    show a < b
    omega
  have fr : H1 D = none := I2.hok.fresh lo
  refine ⟨.ref D, _, Inv.drw (d := d2) (I2.laid (t' := tk2) (o := .lst (ms.map V.int)) k2 lo ⟨by rw [List.length_map]; exact small (by omega), out.toList, c, vals_ints i1, by simpa using hD⟩), rfl, q D ms fr rise fun k => by rw [i3 k, mm k]⟩
end
end L2
/-! links of a rising list, in plain Lean -/
namespace ML
abbrev at' (ns : List Int) (i : Nat) : Int := ns.getD i 0
/-- the first p numbers rise -/
def Rise (ns : List Int) (p : Nat) : Prop := ∀ i, i + 1 < p → at' ns i < at' ns (i + 1)
theorem Rise.lt {ns : List Int} {p : Nat} (h : Rise ns p) : ∀ {i j : Nat}, i < j → j < p → at' ns i < at' ns j := by
  intro i j hij hj
  induction j with
  | zero => omega
  | succ j ih =>
    by_cases e : i = j
    · subst e; exact h i hj
    · exact Int.lt_trans (ih (by omega) (by omega)) (h j hj)
theorem Rise.le {ns : List Int} {p : Nat} (h : Rise ns p) {i j : Nat} (hij : i ≤ j) (hj : j < p) : at' ns i ≤ at' ns j := by
  by_cases e : i = j
  · subst e; exact Int.le_refl _
  · exact Int.le_of_lt (h.lt (by omega) hj)
theorem Rise.mono {ns : List Int} {p q : Nat} (h : Rise ns p) (hq : q ≤ p) : Rise ns q := fun i hi => h i (by omega)
/-- two earlier places whose sum stands at p -/
def Two (ns : List Int) (p i j : Nat) : Prop := i ≤ j ∧ j < p ∧ at' ns i + at' ns j = at' ns p
/-- the link of p: the second place as great as can be -/
def Lnk (ns : List Int) (p i j : Nat) : Prop := Two ns p i j ∧ ∀ a b, Two ns p a b → b ≤ j
theorem Lnk.uniq {ns : List Int} {p i j i' j' : Nat} (h : Rise ns p) (a : Lnk ns p i j) (b : Lnk ns p i' j') : i = i' ∧ j = j' := by
  have e1 := a.2 _ _ b.1
  have e2 := b.2 _ _ a.1
  have ej : j = j' := by omega
  subst ej
  refine ⟨?_, rfl⟩
  obtain ⟨⟨a1, a2, a3⟩, _⟩ := a
  obtain ⟨⟨b1, b2, b3⟩, _⟩ := b
  rcases Nat.lt_trichotomy i i' with z | z | z
  · have := h.lt z (by omega); omega
  · exact z
  · have := h.lt z (by omega); omega
/-- what holds between two turns of the search from both ends -/
def Srch (ns : List Int) (p : Nat) (i j : Int) : Prop := 0 ≤ i ∧ j < p ∧ ∀ a b, Two ns p a b → i ≤ a ∧ (b : Int) ≤ j
theorem Srch.start {ns : List Int} {p : Nat} : Srch ns p 0 ((p : Int) - 1) := ⟨Int.le_refl 0, by omega, fun a b h => ⟨by omega, by have := h.2.1; omega⟩⟩
theorem Srch.found {ns : List Int} {p : Nat} {i j : Nat} (h : Srch ns p i j) (hij : i ≤ j) (e : at' ns i + at' ns j = at' ns p) : Lnk ns p i j :=
  ⟨⟨hij, by have := h.2.1; omega, e⟩, fun a b t => by have := (h.2.2 a b t).2; omega⟩
theorem Srch.up {ns : List Int} {p : Nat} {i j : Nat} (r : Rise ns p) (h : Srch ns p i j) (hij : i ≤ j) (e : at' ns i + at' ns j < at' ns p) : Srch ns p ((i : Int) + 1) j := by
  obtain ⟨h0, h1, h2⟩ := h
  refine ⟨by omega, h1, fun a b t => ?_⟩
  obtain ⟨z1, z2⟩ := h2 a b t
  refine ⟨?_, z2⟩
  by_cases ea : a = i
  · subst ea
    exfalso
    have := r.le (i := b) (j := j) (by omega) (by omega)
    have := t.2.2
    omega
  · omega
theorem Srch.down {ns : List Int} {p : Nat} {i j : Nat} (r : Rise ns p) (h : Srch ns p i j) (hij : i ≤ j) (e : at' ns p < at' ns i + at' ns j) : Srch ns p i ((j : Int) - 1) := by
  obtain ⟨h0, h1, h2⟩ := h
  refine ⟨h0, by omega, fun a b t => ?_⟩
  obtain ⟨z1, z2⟩ := h2 a b t
  refine ⟨z1, ?_⟩
  by_cases eb : b = j
  · subst eb
    exfalso
    have := r.le (i := i) (j := a) (by omega) (by have := t.1; omega)
    have := t.2.2
    omega
  · omega
theorem Srch.none {ns : List Int} {p : Nat} {i j : Int} (h : Srch ns p i j) (hij : j < i) : ∀ a b, ¬ Two ns p a b := fun a b t => by
  obtain ⟨z1, z2⟩ := h.2.2 a b t
  have := t.1
  omega
/-- a chain -/
def Chn (ns : List Int) : Prop := 1 ≤ ns.length ∧ ns.length ≤ 250 ∧ at' ns 0 = 1 ∧ ∀ p, 1 ≤ p → p < ns.length → at' ns (p - 1) < at' ns p ∧ ∃ i j, Two ns p i j
theorem Chn.rise {ns : List Int} (h : Chn ns) : Rise ns ns.length := fun i hi => by
  have := (h.2.2.2 (i + 1) (by omega) hi).1
  simpa using this
/-- the places below q keep what a chain asks -/
def Upto (ns : List Int) (q : Nat) : Prop := ∀ p, 1 ≤ p → p < q → at' ns (p - 1) < at' ns p ∧ ∃ i j, Two ns p i j
theorem Upto.rise {ns : List Int} {q : Nat} (h : Upto ns q) : Rise ns q := fun i hi => by
  have := (h (i + 1) (by omega) hi).1
  simpa using this
theorem Upto.next {ns : List Int} {q : Nat} (h : Upto ns q) (h1 : at' ns (q - 1) < at' ns q) (h2 : ∃ i j, Two ns q i j) : Upto ns (q + 1) := fun p hp hq => by
  by_cases e : p = q
  · subst e; exact ⟨h1, h2⟩
  · exact h p hp (by omega)
/-- the law's own search: some number of the first p, and the rest among them -/
theorem two_of_any {ns : List Int} {p a b : Nat} (ha : a < p) (hb : b < p) (e : at' ns a + at' ns b = at' ns p) : ∃ i j, Two ns p i j := by
  by_cases h : a ≤ b
  · exact ⟨a, b, h, hb, e⟩
  · exact ⟨b, a, by omega, ha, by omega⟩
end ML
namespace ML
theorem at_snoc_lt {cs : List Int} {t : Int} {i : Nat} (h : i < cs.length) : at' (cs ++ [t]) i = at' cs i := by
  unfold at'
  rw [List.getD_eq_getElem?_getD, List.getD_eq_getElem?_getD, List.getElem?_append_left h]
theorem at_snoc_eq {cs : List Int} {t : Int} : at' (cs ++ [t]) cs.length = t := by
  unfold at'
  rw [List.getD_eq_getElem?_getD, List.getElem?_append_right (Nat.le_refl _)]
  simp
/-- a list that a chain is made of, all numbers below M -/
structure Good (cs : List Int) (M : Int) : Prop where
  pos : 1 ≤ cs.length
  one : at' cs 0 = 1
  up : Upto cs cs.length
  low : ∀ i, i < cs.length → 1 ≤ at' cs i
  high : ∀ i, i < cs.length → at' cs i < M
theorem Good.start {M : Int} (h : 1 < M) : Good [1] M := ⟨by simp, rfl, fun p h1 h2 => by simp at h2; omega, fun i hi => by simp at hi; subst hi; decide, fun i hi => by simp at hi; subst hi; exact h⟩
theorem Good.push {cs : List Int} {M t : Int} {a b : Nat} (g : Good cs M) (ha : a < cs.length) (hb : b < cs.length) (e : at' cs a + at' cs b = t) (hl : at' cs (cs.length - 1) < t) (hM : t < M) : Good (cs ++ [t]) M := by
  have hlen : (cs ++ [t]).length = cs.length + 1 := by simp
  have hp := g.pos
  refine ⟨by omega, ?_, ?_, ?_, ?_⟩
  · rw [at_snoc_lt (by omega)]; exact g.one
  · rw [hlen]
    intro p h1 h2
    by_cases ep : p = cs.length
    · subst ep
      refine ⟨?_, ?_⟩
      · rw [at_snoc_lt (by omega), at_snoc_eq]; exact hl
      · refine two_of_any ha hb ?_
        rw [at_snoc_lt ha, at_snoc_lt hb, at_snoc_eq]; exact e
    · obtain ⟨q1, i, j, q2, q3, q4⟩ := g.up p h1 (by omega)
      refine ⟨?_, i, j, q2, q3, ?_⟩
      · rw [at_snoc_lt (by omega), at_snoc_lt (by omega)]; exact q1
      · rw [at_snoc_lt (by omega), at_snoc_lt (by omega), at_snoc_lt (by omega)]; exact q4
  · intro i hi
    rw [hlen] at hi
    by_cases ei : i = cs.length
    · subst ei
      rw [at_snoc_eq]
      have := g.low (cs.length - 1) (by omega)
      omega
    · rw [at_snoc_lt (by omega)]; exact g.low i (by omega)
  · intro i hi
    rw [hlen] at hi
    by_cases ei : i = cs.length
    · subst ei
      rw [at_snoc_eq]; exact hM
    · rw [at_snoc_lt (by omega)]; exact g.high i (by omega)
theorem Good.chn {cs : List Int} {M : Int} (g : Good cs M) (h : cs.length ≤ 250) : Chn cs := ⟨g.pos, h, g.one, g.up⟩
end ML
/-! the doubling chain, in plain Lean -/
namespace D5
def dblF : Nat → Nat → List Int
  | 0, _ => [1]
  | f + 1, n => if n ≤ 1 then [1] else dblF f (n / 2) ++ [2 * ((n / 2 : Nat) : Int)] ++ (if n % 2 = 1 then [2 * ((n / 2 : Nat) : Int) + 1] else [])
def dbl (n : Nat) : List Int := dblF n n
theorem dblF_eq : ∀ (f g n : Nat), n ≤ f → n ≤ g → dblF f n = dblF g n
  | 0, 0, _, _, _ => rfl
  | 0, g + 1, n, h, _ => by simp [dblF, show n ≤ 1 by omega]
  | f + 1, 0, n, _, h => by simp [dblF, show n ≤ 1 by omega]
  | f + 1, g + 1, n, h1, h2 => by
    simp only [dblF]
    by_cases h : n ≤ 1
    · simp [h]
    · simp only [h, if_false]
      rw [dblF_eq f g (n / 2) (by omega) (by omega)]
theorem dbl_one {n : Nat} (h : n ≤ 1) : dbl n = [1] := by
  unfold dbl
  cases n with
  | zero => rfl
  | succ n => simp [dblF, h]
theorem dbl_step {n : Nat} (h : 2 ≤ n) : dbl n = dbl (n / 2) ++ [2 * ((n / 2 : Nat) : Int)] ++ (if n % 2 = 1 then [2 * ((n / 2 : Nat) : Int) + 1] else []) := by
  unfold dbl
  obtain ⟨k, rfl⟩ : ∃ k, n = k + 1 := ⟨n - 1, by omega⟩
  rw [show dblF (k + 1) (k + 1) = _ from rfl]
  simp only [dblF, show ¬ k + 1 ≤ 1 by omega, if_false]
  rw [dblF_eq k ((k + 1) / 2) ((k + 1) / 2) (by omega) (by omega)]
theorem dbl_last : ∀ (n : Nat), 1 ≤ n → ∃ c, dbl n = c ++ [(n : Int)]
  | n, h => by
    by_cases h1 : n = 1
    · subst h1; exact ⟨[], by rw [dbl_one (by omega)]; rfl⟩
    · rw [dbl_step (by omega)]
      by_cases hb : n % 2 = 1
      · refine ⟨dbl (n / 2) ++ [2 * ((n / 2 : Nat) : Int)], ?_⟩
        rw [if_pos hb]
        congr 2
        omega
      · refine ⟨dbl (n / 2), ?_⟩
        rw [if_neg hb, List.append_nil]
        congr 2
        omega
theorem dbl_len : ∀ (k n : Nat), n < 2 ^ k → (dbl n).length ≤ 2 * k + 1
  | 0, n, h => by rw [dbl_one (by omega)]; simp
  | k + 1, n, h => by
    by_cases h1 : n ≤ 1
    · rw [dbl_one h1]; simp
    · rw [dbl_step (by omega)]
      have ih := dbl_len k (n / 2) (by rw [Nat.pow_succ] at h; omega)
      simp only [List.length_append, List.length_singleton]
      split <;> simp <;> omega
end D5
namespace D5
end D5
namespace ML
theorem Good.mono {cs : List Int} {M N : Int} (g : Good cs M) (h : M ≤ N) : Good cs N := ⟨g.pos, g.one, g.up, g.low, fun i hi => Int.lt_of_lt_of_le (g.high i hi) h⟩
end ML
namespace ML
/-- the places that the end needs -/
inductive Need (ns : List Int) : Nat → Prop where
  | last : Need ns (ns.length - 1)
  | fst {p i j : Nat} (h : Need ns p) (h1 : 1 ≤ p) (l : Lnk ns p i j) : Need ns i
  | snd {p i j : Nat} (h : Need ns p) (h1 : 1 ≤ p) (l : Lnk ns p i j) : Need ns j
theorem Need.lt {ns : List Int} (hn : 1 ≤ ns.length) {p : Nat} (h : Need ns p) : p < ns.length := by
  induction h with
  | last => omega
  | fst h h1 l ih => have := l.1.1; have := l.1.2.1; omega
  | snd h h1 l ih => have := l.1.2.1; omega
/-- what is marked while the places go down: those from len - i on are settled -/
structure Mk (ns : List Int) (S : Nat → Prop) (i : Nat) : Prop where
  sound : ∀ q, S q → Need ns q
  top : S (ns.length - 1)
  cl : ∀ q, ns.length ≤ q + i → 1 ≤ q → S q → ∀ x y, Lnk ns q x y → S x ∧ S y
theorem Mk.start {ns : List Int} {S : Nat → Prop} (hn : 1 ≤ ns.length) (hS : ∀ q, S q ↔ q = ns.length - 1) : Mk ns S 0 :=
  ⟨fun q h => by rw [(hS q).mp h]; exact .last, (hS _).mpr rfl, fun q h1 h2 h3 => by have := (hS q).mp h3; omega⟩
theorem Mk.mark {ns : List Int} {S T : Nat → Prop} {i p x y : Nat} (hR : Rise ns ns.length) (m : Mk ns S i) (hp : p + i + 1 = ns.length) (hp1 : 1 ≤ p) (h : S p) (l : Lnk ns p x y) (hT : ∀ q, T q ↔ S q ∨ q = x ∨ q = y) : Mk ns T (i + 1) := by
  have hxy := l.1.1
  have hy := l.1.2.1
  refine ⟨fun q hq => ?_, (hT _).mpr (.inl m.top), fun q h1 h2 h3 a b lab => ?_⟩
  · rcases (hT q).mp hq with z | z | z
    · exact m.sound q z
    · subst z; exact .fst (m.sound p h) hp1 l
    · subst z; exact .snd (m.sound p h) hp1 l
  · rcases (hT q).mp h3 with z | z | z
    · by_cases e : q = p
      · subst e
        obtain ⟨e1, e2⟩ := l.uniq (hR.mono (by omega)) lab
        exact ⟨(hT a).mpr (.inr (.inl e1.symm)), (hT b).mpr (.inr (.inr e2.symm))⟩
      · obtain ⟨s1, s2⟩ := m.cl q (by omega) h2 z a b lab
        exact ⟨(hT a).mpr (.inl s1), (hT b).mpr (.inl s2)⟩
    · omega
    · omega
/-- the test, and the thinned list -/
noncomputable def nd (ns : List Int) (p : Nat) : Bool := @decide (Need ns p) (Classical.propDecidable _)
section
variable {ns : List Int}
end
end ML
/-! the search for chains that come to a number, in plain Lean -/
namespace SR
open ML
abbrev end' (cs : List Int) : Int := at' cs (cs.length - 1)
/-- t may stand next -/
def isTot (n : Int) (cs : List Int) (t : Int) : Bool := decide (end' cs < t) && decide (t ≤ n) && cs.any fun a => cs.any fun b => a + b == t
/-- what may stand next, from the greatest down -/
def tots (n : Int) (cs : List Int) : List Int := ((List.range (n.toNat + 1)).reverse.map fun k : Nat => (k : Int)).filter (isTot n cs)
def prn (n : Int) (k : Nat) (cs : List Int) : Bool := decide (end' cs * 2 ^ k < n) || decide (n ≤ end' cs)
def next (n : Int) (k : Nat) (cs : List Int) : List Int := if prn n k cs = true then [] else tots n cs
def rch (n : Int) : Nat → List Int → Bool
  | 0, cs => decide (end' cs = n)
  | k + 1, cs => (next n (k + 1) cs).any fun t => rch n k (cs ++ [t])
theorem isTot_iff {n t : Int} {cs : List Int} : isTot n cs t = true ↔ end' cs < t ∧ t ≤ n ∧ ∃ a ∈ cs, ∃ b ∈ cs, a + b = t := by
  unfold isTot
  rw [Bool.and_eq_true, Bool.and_eq_true, decide_eq_true_iff, decide_eq_true_iff, List.any_eq_true]
  constructor
  · rintro ⟨⟨h1, h2⟩, a, ha, h3⟩
    rw [List.any_eq_true] at h3
    obtain ⟨b, hb, e⟩ := h3
    exact ⟨h1, h2, a, ha, b, hb, by simpa using e⟩
  · rintro ⟨h1, h2, a, ha, b, hb, e⟩
    refine ⟨⟨h1, h2⟩, a, ha, ?_⟩
    rw [List.any_eq_true]
    exact ⟨b, hb, by simpa using e⟩
theorem mem_tots {n t : Int} {cs : List Int} (h0 : 0 ≤ end' cs) : t ∈ tots n cs ↔ end' cs < t ∧ t ≤ n ∧ ∃ a ∈ cs, ∃ b ∈ cs, a + b = t := by
  unfold tots
  rw [List.mem_filter, isTot_iff]
  constructor
  · exact fun h => h.2
  · intro h
    refine ⟨?_, h⟩
    rw [List.mem_map]
    refine ⟨t.toNat, ?_, by omega⟩
    rw [List.mem_reverse, List.mem_range]
    omega
theorem tots_desc (n : Int) (cs : List Int) : (tots n cs).Pairwise (· > ·) := by
  unfold tots
  refine List.Pairwise.filter _ ?_
  rw [List.pairwise_map]
  rw [List.pairwise_reverse]
  refine List.Pairwise.imp ?_ List.pairwise_lt_range
  intro a b h
  show (b : Int) > (a : Int)
  omega
/-- two falling lists of the same numbers are one -/
theorem desc_eq : ∀ {l m : List Int}, l.Pairwise (· > ·) → m.Pairwise (· > ·) → (∀ x, x ∈ l ↔ x ∈ m) → l = m
  | [], [], _, _, _ => rfl
  | [], b :: m, _, _, h => absurd ((h b).mpr List.mem_cons_self) (by simp)
  | a :: l, [], _, _, h => absurd ((h a).mp List.mem_cons_self) (by simp)
  | a :: l, b :: m, hl, hm, h => by
    rw [List.pairwise_cons] at hl hm
    have e : a = b := by
      rcases List.mem_cons.mp ((h a).mp List.mem_cons_self) with z | z
      · exact z
      · rcases List.mem_cons.mp ((h b).mpr List.mem_cons_self) with z' | z'
        · exact z'.symm
        · have h1 := hm.1 a z
          have h2 := hl.1 b z'
          omega
    subst e
    rw [desc_eq hl.2 hm.2 fun x => ?_]
    constructor
    · intro hx
      rcases List.mem_cons.mp ((h x).mp (List.mem_cons_of_mem _ hx)) with z | z
      · subst z
        have := hl.1 _ hx
        omega
      · exact z
    · intro hx
      rcases List.mem_cons.mp ((h x).mpr (List.mem_cons_of_mem _ hx)) with z | z
      · subst z
        have := hm.1 _ hx
        omega
      · exact z
theorem desc_of {ms : List Int} (h : ms.Pairwise (· ≥ ·)) (hn : ms.Nodup) : ms.Pairwise (· > ·) := by
  induction ms with
  | nil => exact .nil
  | cons a l ih =>
    rw [List.pairwise_cons] at h
    rw [List.nodup_cons] at hn
    rw [List.pairwise_cons]
    refine ⟨fun x hx => ?_, ih h.2 hn.2⟩
    have h1 := h.1 x hx
    have : x ≠ a := fun e => hn.1 (e ▸ hx)
    show a > x
    have h1' : a ≥ x := h1
    omega
theorem nodup_len : ∀ (N : Nat) (l : List Int), l.Nodup → (∀ x ∈ l, 1 ≤ x ∧ x ≤ (N : Int)) → l.length ≤ N
  | 0, [], _, _ => Nat.le_refl _
  | 0, a :: _, _, h => by have := h a List.mem_cons_self; omega
  | N + 1, l, hn, h => by
    by_cases hm : ((N + 1 : Nat) : Int) ∈ l
    · have ih := nodup_len N (l.erase ((N + 1 : Nat) : Int)) (hn.erase _) fun x hx => by
        obtain ⟨h1, h2⟩ := hn.mem_erase_iff.mp hx
        have := h x h2
        omega
      have := List.length_erase_of_mem hm
      omega
    · have ih := nodup_len N l hn fun x hx => by
        have := h x hx
        have : x ≠ ((N + 1 : Nat) : Int) := fun e => hm (e ▸ hx)
        omega
      omega
/-- a list whose numbers rise: what may stand next rises too -/
structure Up (cs : List Int) : Prop where
  pos : 1 ≤ cs.length
  low : ∀ i, i < cs.length → 1 ≤ at' cs i
  le : ∀ i, i < cs.length → at' cs i ≤ end' cs
theorem Up.one : Up [1] := ⟨by simp, fun i hi => by simp at hi; subst hi; decide, fun i hi => by simp at hi; subst hi; decide⟩
theorem mem_at {cs : List Int} {a : Int} (h : a ∈ cs) : ∃ i, i < cs.length ∧ at' cs i = a := by
  obtain ⟨i, hi, e⟩ := List.mem_iff_getElem.mp h
  exact ⟨i, hi, by unfold at'; rw [List.getD_eq_getElem?_getD, List.getElem?_eq_getElem hi, ← e]; rfl⟩
theorem at_mem {cs : List Int} {i : Nat} (h : i < cs.length) : at' cs i ∈ cs := by
  unfold at'
  rw [List.getD_eq_getElem?_getD, List.getElem?_eq_getElem h]
  exact List.getElem_mem h
theorem end_snoc {cs : List Int} {t : Int} : end' (cs ++ [t]) = t := by
  show at' (cs ++ [t]) ((cs ++ [t]).length - 1) = t
  rw [List.length_append, List.length_singleton, Nat.add_sub_cancel, at_snoc_eq]
theorem Up.snoc {cs : List Int} {t : Int} (u : Up cs) (h : end' cs < t) : Up (cs ++ [t]) := by
  have hl : (cs ++ [t]).length = cs.length + 1 := by simp
  have hp := u.pos
  have h1 := u.low (cs.length - 1) (by omega)
  refine ⟨by omega, fun i hi => ?_, fun i hi => ?_⟩
  · by_cases e : i = cs.length
    · subst e
      rw [at_snoc_eq]
      show 1 ≤ t
      have h : at' cs (cs.length - 1) < t := h
      omega
    · rw [at_snoc_lt (by omega)]; exact u.low i (by omega)
  · rw [end_snoc]
    by_cases e : i = cs.length
    · subst e; rw [at_snoc_eq]; exact Int.le_refl _
    · rw [at_snoc_lt (by omega)]
      have := u.le i (by omega)
      omega
theorem Up.endpos {cs : List Int} (u : Up cs) : 1 ≤ end' cs := u.low _ (by have := u.pos; omega)
theorem tots_len (n : Int) (cs : List Int) (hn : n ≤ 60) (u : Up cs) : (tots n cs).length < 64 := by
  have h1 := List.length_filter_le (isTot n cs) ((List.range (n.toNat + 1)).reverse.map fun k : Nat => (k : Int))
  have h2 : ((List.range (n.toNat + 1)).reverse.map fun k : Nat => (k : Int)).length = n.toNat + 1 := by simp
  unfold tots
  omega
/-- the next numbers keep the list rising, and stay below n -/
theorem mem_next {n t : Int} {k : Nat} {cs : List Int} (h : t ∈ next n k cs) : end' cs < t ∧ t ≤ n := by
  unfold next at h
  split at h
  · simp at h
  · unfold tots at h
    rw [List.mem_filter, isTot_iff] at h
    exact ⟨h.2.1, h.2.2.1⟩
end SR
namespace SR
open ML
end SR
namespace D5
open ML
/-- each number of the chain is the sum of the one ahead and another -/
def Star (cs : List Int) : Prop := ∀ p, 1 ≤ p → p < cs.length → ∃ x, Two cs p x (p - 1)
theorem Star.push {cs : List Int} {t : Int} {a : Nat} (s : Star cs) (hp : 1 ≤ cs.length) (ha : a < cs.length) (e : at' cs a + at' cs (cs.length - 1) = t) : Star (cs ++ [t]) := by
  intro p h1 h2
  rw [List.length_append, List.length_singleton] at h2
  by_cases ep : p = cs.length
  · subst ep
    refine ⟨a, by omega, by omega, ?_⟩
    rw [at_snoc_lt ha, at_snoc_lt (by omega), at_snoc_eq]
    exact e
  · obtain ⟨x, q1, q2, q3⟩ := s p h1 (by omega)
    refine ⟨x, q1, q2, ?_⟩
    rw [at_snoc_lt (by omega), at_snoc_lt (by omega), at_snoc_lt (by omega)]
    exact q3
theorem dbl_end {n : Nat} (h : 1 ≤ n) : at' (dbl n) ((dbl n).length - 1) = (n : Int) := by
  obtain ⟨c, e⟩ := dbl_last n h
  rw [e]
  rw [List.length_append, List.length_singleton, Nat.add_sub_cancel, at_snoc_eq]
theorem dbl_good : ∀ (n : Nat), 1 ≤ n → Good (dbl n) ((n : Int) + 1) ∧ Star (dbl n)
  | n, h => by
    by_cases h1 : n = 1
    · subst h1
      rw [dbl_one (by omega)]
      exact ⟨Good.start (by decide), fun p h1 h2 => by simp at h2; omega⟩
    · obtain ⟨g, s⟩ := dbl_good (n / 2) (by omega)
      have hl := dbl_end (n := n / 2) (by omega)
      have hp := g.pos
      rw [dbl_step (by omega)]
      have g1 : Good (dbl (n / 2) ++ [2 * ((n / 2 : Nat) : Int)]) ((n : Int) + 1) := (g.mono (by omega)).push (a := (dbl (n / 2)).length - 1) (b := (dbl (n / 2)).length - 1) (by omega) (by omega) (by rw [hl]; omega) (by rw [hl]; omega) (by omega)
      have s1 : Star (dbl (n / 2) ++ [2 * ((n / 2 : Nat) : Int)]) := s.push hp (a := (dbl (n / 2)).length - 1) (by omega) (by rw [hl]; omega)
      by_cases hb : n % 2 = 1
      · rw [if_pos hb]
        have hle : (dbl (n / 2) ++ [2 * ((n / 2 : Nat) : Int)]).length = (dbl (n / 2)).length + 1 := by simp
        have e0 : at' (dbl (n / 2) ++ [2 * ((n / 2 : Nat) : Int)]) 0 = 1 := by rw [at_snoc_lt (by omega)]; exact g.one
        have e1 : at' (dbl (n / 2) ++ [2 * ((n / 2 : Nat) : Int)]) ((dbl (n / 2) ++ [2 * ((n / 2 : Nat) : Int)]).length - 1) = 2 * ((n / 2 : Nat) : Int) := by rw [hle, Nat.add_sub_cancel, at_snoc_eq]
        exact ⟨g1.push (a := 0) (b := (dbl (n / 2) ++ [2 * ((n / 2 : Nat) : Int)]).length - 1) (by omega) (by omega) (by rw [e0, e1]; omega) (by rw [e1]; omega) (by omega), s1.push (by omega) (a := 0) (by omega) (by rw [e0, e1]; omega)⟩
      · rw [if_neg hb, List.append_nil]
        exact ⟨g1, s1⟩
end D5
namespace ML
theorem Chn.low {ns : List Int} (hc : Chn ns) {i : Nat} (hi : i < ns.length) : 1 ≤ at' ns i := by
  have := hc.rise.le (i := 0) (j := i) (by omega) hi
  rw [hc.2.2.1] at this
  exact this
end ML
namespace ML
end ML
/-! the least number of steps, in plain Lean -/
namespace SR
open ML
/-- ts may stand behind cs, one after the other -/
def Ext : List Int → List Int → Prop
  | _, [] => True
  | cs, t :: ts => end' cs < t ∧ (∃ a ∈ cs, ∃ b ∈ cs, a + b = t) ∧ Ext (cs ++ [t]) ts
theorem end_cons {cs : List Int} {t : Int} {ts : List Int} : end' (cs ++ t :: ts) = end' ((cs ++ [t]) ++ ts) := by rw [List.append_assoc]; rfl
theorem Ext.ge : ∀ {ts cs : List Int}, Ext cs ts → end' cs ≤ end' (cs ++ ts)
  | [], cs, _ => by rw [List.append_nil]; exact Int.le_refl _
  | t :: ts, cs, h => by
    have := Ext.ge h.2.2
    rw [end_snoc] at this
    rw [end_cons]
    have := h.1
    omega
theorem Ext.two : ∀ {ts cs : List Int}, Up cs → Ext cs ts → end' (cs ++ ts) ≤ end' cs * 2 ^ ts.length
  | [], cs, _, _ => by rw [List.append_nil]; simp
  | t :: ts, cs, u, h => by
    have ih := Ext.two (u.snoc h.1) h.2.2
    rw [end_snoc] at ih
    rw [end_cons, List.length_cons]
    obtain ⟨a, ha, b, hb, e⟩ := h.2.1
    obtain ⟨i, hi, ei⟩ := mem_at ha
    obtain ⟨j, hj, ej⟩ := mem_at hb
    have h1 := u.le i hi
    have h2 := u.le j hj
    have ht : t ≤ end' cs * 2 := by omega
    have hp : (0 : Int) ≤ 2 ^ ts.length := Int.le_of_lt (Int.pow_pos (by decide))
    have := Int.mul_le_mul_of_nonneg_right ht hp
    rw [Int.pow_succ, Int.mul_comm ((2 : Int) ^ ts.length) 2, ← Int.mul_assoc]
    omega
theorem rch_iff {n : Int} : ∀ (k : Nat) (cs : List Int), Up cs → (rch n k cs = true ↔ ∃ ts, ts.length = k ∧ Ext cs ts ∧ end' (cs ++ ts) = n)
  | 0, cs, u => by
    show decide (end' cs = n) = true ↔ _
    rw [decide_eq_true_iff]
    constructor
    · intro h; exact ⟨[], rfl, trivial, by rw [List.append_nil]; exact h⟩
    · rintro ⟨ts, h1, _, h3⟩
      rw [List.length_eq_zero_iff] at h1
      subst h1
      rwa [List.append_nil] at h3
  | k + 1, cs, u => by
    show ((next n (k + 1) cs).any fun t => rch n k (cs ++ [t])) = true ↔ _
    rw [List.any_eq_true]
    constructor
    · rintro ⟨t, ht, h⟩
      have hb := mem_next ht
      obtain ⟨ts, h1, h2, h3⟩ := (rch_iff k _ (u.snoc hb.1)).mp h
      have ht' : t ∈ tots n cs := by
        unfold next at ht
        split at ht
        · simp at ht
        · exact ht
      obtain ⟨_, _, hs⟩ := (mem_tots (by have := u.endpos; omega)).mp ht'
      exact ⟨t :: ts, by rw [List.length_cons, h1], ⟨hb.1, hs, h2⟩, by rw [end_cons]; exact h3⟩
    · rintro ⟨ts, h1, h2, h3⟩
      cases ts with
      | nil => simp at h1
      | cons t ts =>
        have hl : ts.length = k := by simpa using h1
        have hge := h2.2.2.ge
        rw [end_snoc, ← end_cons, h3] at hge
        have htw := Ext.two u h2
        rw [h3, h1] at htw
        have hlt := h2.1
        refine ⟨t, ?_, (rch_iff k _ (u.snoc h2.1)).mpr ⟨ts, hl, h2.2.2, by rw [← end_cons]; exact h3⟩⟩
        have hp : prn n (k + 1) cs = false := by
          unfold prn
          rw [decide_eq_false (by omega), decide_eq_false (by omega)]
          rfl
        unfold next
        rw [if_neg (by rw [hp]; exact Bool.false_ne_true), mem_tots (by have := u.endpos; omega)]
        exact ⟨hlt, hge, h2.2.1⟩
/-- a chain of k steps ends with n -/
def Has (n : Int) (k : Nat) : Prop := ∃ (ms : List Int) (M : Int), Good ms M ∧ ms.length = k + 1 ∧ end' ms = n
theorem Good.ext : ∀ {ts cs : List Int} {M : Int}, Good cs M → Ext cs ts → ∃ M', Good (cs ++ ts) M'
  | [], cs, M, g, _ => ⟨M, by rw [List.append_nil]; exact g⟩
  | t :: ts, cs, M, g, h => by
    obtain ⟨a, ha, b, hb, e⟩ := h.2.1
    obtain ⟨i, hi, ei⟩ := mem_at ha
    obtain ⟨j, hj, ej⟩ := mem_at hb
    have gm : Good cs (if M ≤ t then t + 1 else M) := g.mono (by split <;> omega)
    have g1 := gm.push hi hj (by rw [ei, ej]; exact e) h.1 (by split <;> omega)
    obtain ⟨M', g'⟩ := Good.ext g1 h.2.2
    exact ⟨M', by rw [List.append_assoc] at g'; exact g'⟩
/-- a chain, cut behind its first numbers, is what comes next -/
theorem ext_of {ms : List Int} {M : Int} (g : Good ms M) : ∀ (d c : Nat), c + d = ms.length → 1 ≤ c → Ext (ms.take c) (ms.drop c)
  | 0, c, h, _ => by rw [List.drop_of_length_le (by omega)]; trivial
  | d + 1, c, h, hc => by
    have hc' : c < ms.length := by omega
    rw [List.drop_eq_getElem_cons hc']
    have eg : ms[c] = at' ms c := by
      unfold at'
      rw [List.getD_eq_getElem?_getD, List.getElem?_eq_getElem hc']
      rfl
    have ih := ext_of g d (c + 1) (by omega) (by omega)
    rw [List.take_succ_eq_append_getElem hc'] at ih
    have htl : (ms.take c).length = c := by rw [List.length_take]; omega
    have hat : ∀ i, i < c → at' (ms.take c) i = at' ms i := fun i hi => by
      unfold at'
      rw [List.getD_eq_getElem?_getD, List.getD_eq_getElem?_getD, List.getElem?_take_of_lt hi]
    obtain ⟨up, i, j, q1, q2, q3⟩ := g.up c hc hc'
    refine ⟨?_, ⟨at' ms i, ?_, at' ms j, ?_, by rw [eg]; exact q3⟩, ih⟩
    · show at' (ms.take c) ((ms.take c).length - 1) < _
      rw [htl, hat _ (by omega), eg]
      exact up
    · rw [← hat i (by omega)]; exact at_mem (by omega)
    · rw [← hat j (by omega)]; exact at_mem (by omega)
theorem rch_has {n : Int} {k : Nat} : rch n k [1] = true ↔ Has n k := by
  rw [rch_iff k [1] Up.one]
  constructor
  · rintro ⟨ts, h1, h2, h3⟩
    obtain ⟨M, g⟩ := Good.ext (Good.start (M := 2) (by decide)) h2
    exact ⟨[1] ++ ts, M, g, by simp [h1], h3⟩
  · rintro ⟨ms, M, g, hl, he⟩
    have h := ext_of g (ms.length - 1) 1 (by have := g.pos; omega) (Nat.le_refl _)
    have e1 : ms.take 1 = [1] := by
      have h0 := g.one
      have hp := g.pos
      cases ms with
      | nil => simp at hp
      | cons a l =>
        have : a = 1 := h0
        subst this
        simp
    rw [e1] at h
    refine ⟨ms.drop 1, by rw [List.length_drop]; omega, h, ?_⟩
    rw [← e1, List.take_append_drop]
    exact he
/-- k is the least -/
def IsL (n : Int) (k : Nat) : Prop := Has n k ∧ ∀ j, j < k → ¬ Has n j
theorem IsL.le {n : Int} {k j : Nat} (h : IsL n k) (hj : Has n j) : k ≤ j := by
  by_cases z : k ≤ j
  · exact z
  · exact absurd hj (h.2 j (by omega))
theorem IsL.uniq {n : Int} {k j : Nat} (h : IsL n k) (h' : IsL n j) : k = j := Nat.le_antisymm (h.le h'.1) (h'.le h.1)
theorem IsL.rch {n : Int} {k : Nat} (h : IsL n k) : SR.rch n k [1] = true ∧ ∀ j, j < k → SR.rch n j [1] = false :=
  ⟨rch_has.mpr h.1, fun j hj => Bool.eq_false_iff.mpr fun z => h.2 j hj (rch_has.mp z)⟩
theorem exists_least {n : Int} {k : Nat} (h : Has n k) : ∃ j, j ≤ k ∧ IsL n j := by
  induction k using Nat.strongRecOn with
  | _ k ih =>
    by_cases z : ∃ j, j < k ∧ Has n j
    · obtain ⟨j, hj, hh⟩ := z
      obtain ⟨i, hi, hl⟩ := ih j hj hh
      exact ⟨i, by omega, hl⟩
    · exact ⟨k, Nat.le_refl _, h, fun j hj hh => z ⟨j, hj, hh⟩⟩
theorem Has.add {a b : Int} {i : Nat} {cs : List Int} {M : Int} (g : Good cs M) (hl : cs.length = i + 1) (he : end' cs = a) {p : Nat} (hp : p < cs.length) (hb : at' cs p = b) : Has (a + b) (i + 1) := by
  have h1 := g.low p hp
  refine ⟨cs ++ [a + b], if M ≤ a + b then a + b + 1 else M, (g.mono (by split <;> omega)).push (a := cs.length - 1) (b := p) (by have := g.pos; omega) hp (by rw [hb]; show end' cs + b = _; rw [he]) (by show end' cs < _; omega) (by split <;> omega), by rw [List.length_append, hl]; rfl, end_snoc⟩
theorem Has.succ {a : Int} {i : Nat} (h : Has a i) : Has (a + 1) (i + 1) := by
  obtain ⟨cs, M, g, hl, he⟩ := h
  exact Has.add g hl he g.pos g.one
theorem Has.dbl {a : Int} {i : Nat} (h : Has a i) : Has (2 * a) (i + 1) := by
  obtain ⟨cs, M, g, hl, he⟩ := h
  have := Has.add g hl he (p := cs.length - 1) (by have := g.pos; omega) he
  rwa [← Int.two_mul] at this
theorem Has.one : Has 1 0 := ⟨[1], 2, Good.start (by decide), rfl, rfl⟩
theorem Has.up {n : Int} {k : Nat} (h : Has n k) : n ≤ 2 ^ k := by
  obtain ⟨ts, h1, h2, h3⟩ := (rch_iff k [1] Up.one).mp (rch_has.mpr h)
  have := Ext.two Up.one h2
  rw [h3, h1] at this
  have e : end' [1] = 1 := rfl
  rw [e, Int.one_mul] at this
  exact this
end SR
/-! ### the program's own search, in plain Lean -/
namespace SR
open ML
/-- at each place the least number from which the end can be reached by doubling -/
def Flr (n : Int) (fs : List Int) : Prop := 1 ≤ fs.length ∧ ∀ i, i < fs.length → ∀ v : Int, at' fs i ≤ v ↔ n ≤ v * 2 ^ (fs.length - 1 - i)
theorem at_cons {x : Int} {fs : List Int} : at' (x :: fs) 0 = x := rfl
theorem at_cons_s {x : Int} {fs : List Int} {i : Nat} : at' (x :: fs) (i + 1) = at' fs i := rfl
theorem Flr.one (n : Int) : Flr n [n] := ⟨by simp, fun i hi v => by
  have : i = 0 := by simp at hi; omega
  subst this
  show n ≤ v ↔ n ≤ v * 2 ^ 0
  rw [Int.pow_zero, Int.mul_one]⟩
theorem Flr.cons {n x : Int} {fs : List Int} (h : Flr n fs) (hx : ∀ v : Int, x ≤ v ↔ at' fs 0 ≤ v * 2) : Flr n (x :: fs) := ⟨by simp, fun i hi v => by
  rw [List.length_cons] at hi ⊢
  cases i with
  | zero =>
    rw [at_cons, hx v, h.2 0 h.1 (v * 2), show fs.length + 1 - 1 - 0 = (fs.length - 1 - 0) + 1 by have := h.1; omega, Int.pow_succ, Int.mul_assoc, Int.mul_comm 2]
  | succ i => rw [at_cons_s, h.2 i (by omega) v, show fs.length + 1 - 1 - (i + 1) = fs.length - 1 - i by omega]⟩
theorem Flr.half {n : Int} {fs : List Int} (h : Flr n fs) : Flr n ((at' fs 0 + 1) / 2 :: fs) := h.cons fun v => by omega
theorem Flr.more {n : Int} {fs : List Int} (h : Flr n fs) (h1 : at' fs 0 = 1) : Flr n (1 :: fs) := h.cons fun v => by rw [h1]; omega
theorem Flr.last {n : Int} {fs : List Int} (h : Flr n fs) : at' fs (fs.length - 1) = n := by
  have key : ∀ v : Int, at' fs (fs.length - 1) ≤ v ↔ n ≤ v := fun v => by
    rw [h.2 (fs.length - 1) (by have := h.1; omega) v, Nat.sub_self, Int.pow_zero, Int.mul_one]
  have a1 := (key n).mpr (Int.le_refl _)
  have a2 := (key (at' fs (fs.length - 1))).mp (Int.le_refl _)
  omega
theorem Flr.top {n : Int} {fs : List Int} (h : Flr n fs) (h1 : at' fs 0 = 1) : n ≤ 1 * 2 ^ (fs.length - 1) := by
  have := (h.2 0 h.1 1).mp (by omega)
  rwa [Nat.sub_zero] at this
theorem Flr.big {n : Int} {fs : List Int} (h : Flr n fs) (h1 : 1 < at' fs 0) : (2 : Int) ^ (fs.length - 1) < n := by
  have := mt (h.2 0 h.1 1).mpr (by omega)
  rw [Nat.sub_zero, Int.one_mul] at this
  omega
/-- what may stand next, from the least up, if the end can still be reached -/
def nx (n : Int) (k : Nat) (cs : List Int) : List Int := (tots n cs).reverse.filter fun t => decide (n ≤ t * 2 ^ (k - 1))
theorem mem_nx {n t : Int} {k : Nat} {cs : List Int} (h0 : 0 ≤ end' cs) : t ∈ nx n k cs ↔ (end' cs < t ∧ t ≤ n ∧ ∃ a ∈ cs, ∃ b ∈ cs, a + b = t) ∧ n ≤ t * 2 ^ (k - 1) := by
  unfold nx
  rw [List.mem_filter, List.mem_reverse, mem_tots h0, decide_eq_true_iff]
theorem nx_asc (n : Int) (k : Nat) (cs : List Int) : (nx n k cs).Pairwise (· < ·) := by
  unfold nx
  refine List.Pairwise.filter _ ?_
  rw [List.pairwise_reverse]
  exact tots_desc n cs
theorem asc_eq {l m : List Int} (hl : l.Pairwise (· < ·)) (hm : m.Pairwise (· < ·)) (h : ∀ x, x ∈ l ↔ x ∈ m) : l = m := by
  have e := desc_eq (l := l.reverse) (m := m.reverse) (by rw [List.pairwise_reverse]; exact hl) (by rw [List.pairwise_reverse]; exact hm) (fun x => by rw [List.mem_reverse, List.mem_reverse]; exact h x)
  have := congrArg List.reverse e
  rwa [List.reverse_reverse, List.reverse_reverse] at this
/-- the first number of what comes to the end may stand next -/
theorem nx_of_ext {n t : Int} {ts cs : List Int} (u : Up cs) (h : Ext cs (t :: ts)) (e : end' (cs ++ t :: ts) = n) : t ∈ nx n (ts.length + 1) cs := by
  rw [mem_nx (by have := u.endpos; omega)]
  have hge := h.2.2.ge
  rw [end_snoc, ← end_cons, e] at hge
  have htw := Ext.two (u.snoc h.1) h.2.2
  rw [end_snoc, ← end_cons, e] at htw
  exact ⟨⟨h.1, hge, h.2.1⟩, by rw [Nat.add_sub_cancel]; exact htw⟩
def sm : List Int → Int
  | [] => 0
  | x :: l => x + sm l
theorem has_ext {n : Int} {k : Nat} : Has n k ↔ ∃ ts, ts.length = k ∧ Ext [1] ts ∧ end' ([1] ++ ts) = n := by
  rw [← rch_has, rch_iff k [1] Up.one]
end SR
namespace Q9
open PySem L2
seal L2.PE L2.PA L2.PS L2.PSs L2.PT L2.PW L2.PI L2.PIfs L2.PG L2.PO
def top (i : Nat) : Stmt := PySem.Challenge.pw_fewsums_k09_shortest_chains.main.body.getD i (.Pass ⟨0, 0, 0, 0⟩)
abbrev s_shortest : Stmt := top 4
abbrev N_shortest : List Str := ["number", "floors", "found"]
theorem sc_shortest : FnScope N_shortest ["number"] (defScope s_shortest) := ⟨rfl, rfl, rfl, by decide +kernel, rfl, by decide +kernel, by decide +kernel⟩
abbrev s_least : Stmt := top 5
abbrev N_least : List Str := ["number"]
theorem sc_least : FnScope N_least ["number"] (defScope s_least) := ⟨rfl, rfl, rfl, by decide +kernel, rfl, by decide +kernel, by decide +kernel⟩
abbrev s_refuse_beyond : Stmt := top 6
abbrev N_refuse_beyond : List Str := ["number", "greatest"]
theorem sc_refuse_beyond : FnScope N_refuse_beyond ["number", "greatest"] (defScope s_refuse_beyond) := ⟨rfl, rfl, rfl, by decide +kernel, rfl, by decide +kernel, by decide +kernel⟩
abbrev s_fewest_floors : Stmt := top 7
abbrev N_fewest_floors : List Str := ["number", "floors"]
theorem sc_fewest_floors : FnScope N_fewest_floors ["number"] (defScope s_fewest_floors) := ⟨rfl, rfl, rfl, by decide +kernel, rfl, by decide +kernel, by decide +kernel⟩
abbrev s_one_step_more : Stmt := top 8
abbrev N_one_step_more : List Str := ["floors"]
theorem sc_one_step_more : FnScope N_one_step_more ["floors"] (defScope s_one_step_more) := ⟨rfl, rfl, rfl, by decide +kernel, rfl, by decide +kernel, by decide +kernel⟩
abbrev s_first_from : Stmt := top 9
abbrev N_first_from : List Str := ["begun", "floors", "number", "found"]
theorem sc_first_from : FnScope N_first_from ["begun", "floors"] (defScope s_first_from) := ⟨rfl, rfl, rfl, by decide +kernel, rfl, by decide +kernel, by decide +kernel⟩
abbrev s_next_numbers : Stmt := top 10
abbrev N_next_numbers : List Str := ["begun", "floors", "end", "lowest", "sums", "one"]
theorem sc_next_numbers : FnScope N_next_numbers ["begun", "floors"] (defScope s_next_numbers) := ⟨rfl, rfl, rfl, by decide +kernel, rfl, by decide +kernel, by decide +kernel⟩
abbrev s_law_cell_at : Stmt := top 12
abbrev N_law_cell_at : List Str := ["script", "k"]
theorem sc_law_cell_at : FnScope N_law_cell_at ["script", "k"] (defScope s_law_cell_at) := ⟨rfl, rfl, rfl, by decide +kernel, rfl, by decide +kernel, by decide +kernel⟩
abbrev s_law_whole : Stmt := top 13
abbrev N_law_whole : List Str := ["found"]
theorem sc_law_whole : FnScope N_law_whole ["found"] (defScope s_law_whole) := ⟨rfl, rfl, rfl, by decide +kernel, rfl, by decide +kernel, by decide +kernel⟩
abbrev s_law_is_chain : Stmt := top 14
abbrev N_law_is_chain : List Str := ["chain", "known", "place"]
theorem sc_law_is_chain : FnScope N_law_is_chain ["chain"] (defScope s_law_is_chain) := ⟨rfl, rfl, rfl, by decide +kernel, rfl, by decide +kernel, by decide +kernel⟩
abbrev s_law_numbers : Stmt := top 15
abbrev N_law_numbers : List Str := ["found"]
theorem sc_law_numbers : FnScope N_law_numbers ["found"] (defScope s_law_numbers) := ⟨rfl, rfl, rfl, by decide +kernel, rfl, by decide +kernel, by decide +kernel⟩
abbrev s_law_totals : Stmt := top 16
abbrev N_law_totals : List Str := ["chain", "number", "steps", "reach", "k", "totals", "one", "other"]
theorem sc_law_totals : FnScope N_law_totals ["chain", "number", "steps"] (defScope s_law_totals) := ⟨rfl, rfl, rfl, by decide +kernel, rfl, by decide +kernel, by decide +kernel⟩
abbrev s_law_reaches : Stmt := top 17
abbrev N_law_reaches : List Str := ["chain", "number", "steps", "total"]
theorem sc_law_reaches : FnScope N_law_reaches ["chain", "number", "steps"] (defScope s_law_reaches) := ⟨rfl, rfl, rfl, by decide +kernel, rfl, by decide +kernel, by decide +kernel⟩
abbrev s_law_least : Stmt := top 18
abbrev N_law_least : List Str := ["number", "steps"]
theorem sc_law_least : FnScope N_law_least ["number"] (defScope s_law_least) := ⟨rfl, rfl, rfl, by decide +kernel, rfl, by decide +kernel, by decide +kernel⟩
abbrev s_law : Stmt := top 19
abbrev N_law : List Str := ["script", "number", "due", "found", "turn", "chain"]
theorem sc_law : FnScope N_law ["script"] (defScope s_law) := ⟨rfl, rfl, rfl, by decide +kernel, rfl, by decide +kernel, by decide +kernel⟩
/-! ### _law_cell_at -/
def cell (ns : List Int) (k : Int) : Int := ns.getD k.toNat 0
def spCell (K : PySem.W.Frag) : Sp := fun vs H Q _ => ∃ (a : Addr) (ns : List Int) (k : Int), vs = [.ref a, .int k] ∧ SqL K H a (ns.map V.int) ∧ 0 ≤ k ∧ Q (.int (cell ns k)) H
theorem int_at {ns : List Int} {k : Int} (h0 : 0 ≤ k) (h : k < (ns.length : Int)) : atI (ns.map V.int) k = some (.int (ns.getD k.toNat 0)) := by
  have hk : k.toNat < ns.length := by omega
  have ek : k = ((k.toNat : Nat) : Int) := by omega
  have q : atI (ns.map V.int) ((k.toNat : Nat) : Int) = some (.int (ns.getD k.toNat 0)) := atI_nat (by rw [List.getElem?_map, List.getElem?_eq_getElem hk]; simp [List.getD, List.getElem?_eq_getElem hk])
  rw [← ek] at q
  exact q
theorem nat_at {ns : List Int} {k : Nat} (h : k < ns.length) : atI (ns.map V.int) (k : Int) = some (.int (ns.getD k 0)) := int_at (ns := ns) (k := (k : Int)) (by omega) (by omega)
theorem last_at {ns : List Int} (h : 1 ≤ ns.length) : atI (ns.map V.int) (-1) = some (.int (ns.getD (ns.length - 1) 0)) := by
  obtain ⟨l, v, rfl⟩ : ∃ l v, ns = l ++ [v] := ⟨ns.dropLast, ns.getLast (by intro e; rw [e] at h; simp at h), (List.dropLast_concat_getLast _).symm⟩
  rw [List.map_append]
  have e : (l ++ [v]).getD ((l ++ [v]).length - 1) 0 = v := by simp [List.getD]
  rw [e]
  exact atI_last _ _
section
variable {P : Program} {w : World} {K : PySem.W.Frag} {mg : Str → Option Value} {base : Heap}
theorem ok_cell {k : Nat} (B : Bts mg) (D_law_cell_at : Def K mg "_law_cell_at" ["script", "k"] s_law_cell_at) : Cal P w K mg base (k + 1) "_law_cell_at" ["script", "k"] (spCell K) := by
  refine D_law_cell_at.cal sc_law_cell_at (fun vs H Q E h => ?_) (fun f cdv A outer s H vs Q E hr h => ?_)
  · obtain ⟨a, ns, k, rfl, _⟩ := h
    rfl
  obtain ⟨a, ns, j, rfl, hS, h0, q⟩ := h
  refine ⟨_, (pss_cons (ps_if (pt_cmpR op_lt (pv 1) (pe_callB (he := star_Name) call_len_seq rfl B.len bt_len (pa_cons (pv 0) pa_nil star_Name)) (nomark _)) (pss_one (ps_ret (pe_ix ix_list (pv 0) (pv 1) (fun _ _ => rfl)))) pss_nil)
      (pss_one (ps_ret pe_int))), ?_⟩
  refine ⟨_, rfl, _, rfl, a, _, rfl, .inl hS, _, _, rfl, rfl, _, rfl, ?_⟩
  refine ite2 (fun c => ?_) (fun c => ?_)
  · have c' : j < (((ns.map V.int).length : Nat) : Int) := of_decide_eq_true c
    rw [List.length_map] at c'
    exact ⟨_, rfl, _, rfl, a, _, _, _, rfl, rfl, hS, int_at h0 c', q⟩
  · have c' : ¬ j < (((ns.map V.int).length : Nat) : Int) := of_decide_eq_false (Bool.eq_false_iff.mpr c)
    rw [List.length_map] at c'
    have e : cell ns j = 0 := by
      unfold cell
      rw [List.getD, List.getElem?_eq_none (by omega)]
      rfl
    rw [e] at q
    exact q
end

/-! ### _law_totals -/
open ML SR in
def spTotals (K : PySem.W.Frag) : Sp := fun vs H Q _ => ∃ (a : Addr) (cs : List Int) (n : Int) (k : Nat), vs = [.ref a, .int n, .int k] ∧ SqL K H a (cs.map V.int) ∧ cs.length ≤ 100 ∧ Up cs ∧ n ≤ 60 ∧ k ≤ 100 ∧
  ∀ (r : Addr) (H' : Hp), Same H H' → H r = none → H' r = some (.lst ((next n k cs).map V.int)) → Q (.ref r) H'
theorem putK_flag {ks : List Int} {t : Int} (h : ks.Nodup) : ∃ ks' : List Int, putK (ks.map fun k => ((Sum.inl k : Key), V.bl true)) (Sum.inl t) (.bl true) = (ks'.map fun k => ((Sum.inl k : Key), V.bl true)) ∧ ks'.Nodup ∧ ∀ x, x ∈ ks' ↔ x ∈ ks ∨ x = t := by
  unfold putK
  by_cases ht : t ∈ ks
  · refine ⟨ks, ?_, h, fun x => ⟨.inl, fun z => by rcases z with z | z; exact z; rw [z]; exact ht⟩⟩
    have e : ((ks.map fun k => ((Sum.inl k : Key), V.bl true)).any fun kv => decide (kv.1 = Sum.inl t)) = true := by
      rw [List.any_eq_true]
      exact ⟨(Sum.inl t, V.bl true), List.mem_map.mpr ⟨t, ht, rfl⟩, by simp⟩
    rw [if_pos e, List.map_map]
    apply List.map_congr_left
    intro k _
    show (if (Sum.inl k : Key) = Sum.inl t then ((Sum.inl k : Key), V.bl true) else ((Sum.inl k : Key), V.bl true)) = _
    split <;> rfl
  · refine ⟨ks ++ [t], ?_, ?_, fun x => by rw [List.mem_append, List.mem_singleton]⟩
    · have e : ¬ ((ks.map fun k => ((Sum.inl k : Key), V.bl true)).any fun kv => decide (kv.1 = Sum.inl t)) = true := by
        rw [List.any_eq_true]
        rintro ⟨kv, hm, hd⟩
        obtain ⟨k, hk, rfl⟩ := List.mem_map.mp hm
        have : k = t := by simpa using hd
        exact ht (this ▸ hk)
      rw [if_neg e, List.map_append]
      rfl
    · rw [List.nodup_append]
      exact ⟨h, by simp, fun a ha b hb => by rw [List.mem_singleton] at hb; subst hb; intro e; exact ht (e ▸ ha)⟩
section
variable {P : Program} {w : World} {K : PySem.W.Frag} {mg : Str → Option Value} {base : Heap}
theorem int_elem {cs : List Int} {i : Nat} {x : V} (h : (cs.map V.int)[i]? = some x) : ∃ hi : i < cs.length, x = .int cs[i] := by
  have hi : i < cs.length := by
    have := (List.getElem?_eq_some_iff.mp h).1
    rwa [List.length_map] at this
  rw [List.getElem?_map, List.getElem?_eq_getElem hi] at h
  cases h
  exact ⟨hi, rfl⟩
open ML SR in
theorem ok_totals {k : Nat} (B : Bts mg) (B2 : Bts2 mg) (D_law_totals : Def K mg "_law_totals" ["chain", "number", "steps"] s_law_totals) : Cal P w K mg base (k + 1) "_law_totals" ["chain", "number", "steps"] (spTotals K) := by
  refine D_law_totals.cal sc_law_totals (fun vs H Q E h => ?_) (fun f cdv A outer s H vs Q E hr h => ?_)
  · obtain ⟨a, cs, n, k, rfl, _⟩ := h
    rfl
  obtain ⟨a, cs, n, k, rfl, hS, hz, hu, hn, hk, q⟩ := h
  have hpos := hu.pos
  have hend := hu.endpos
  refine ⟨_, (pss_cons (ps_set (i := 3) sc_law_totals.nd rfl (Or.inl rfl) (pe_ix ix_list (pv 0) (pe_un un_neg pe_int) (fun _ _ => rfl)))
      (pss_cons (ps_for PassesOwn.never rfl (pi_range1 rfl B.range (pa_cons (pv 2) pa_nil star_Name)) (pg_name (i := 4) sc_law_totals.nd rfl (Or.inl rfl)) (pss_one (ps_set (i := 3) sc_law_totals.nd rfl (Or.inl rfl) (pe_op op_mul (pv 3) pe_int))))
      (pss_cons (ps_if (PW.pt (pw_or (pt_cmpR op_lt (pv 3) (pv 1) (nomark _)) (pw_or1 (pt_cmpR op_ge (pe_ix ix_list (pv 0) (pe_un un_neg pe_int) (fun _ _ => rfl)) (pv 1) (nomark _))))) (pss_one (ps_ret (pe_lst pa_nil))) pss_nil)
      (pss_cons (ps_set (i := 5) sc_law_totals.nd rfl (Or.inl rfl) pe_dnewK)
      (pss_cons (ps_for PassesOwn.never rfl (pi_list (pv 0)) (pg_name (i := 6) sc_law_totals.nd rfl (Or.inl rfl)) (pss_one (ps_for PassesOwn.never rfl (pi_list (pv 0)) (pg_name (i := 7) sc_law_totals.nd rfl (Or.inl rfl)) (pss_one (ps_if (pt_chain op_lt op_le (pe_ix ix_list (pv 0) (pe_un un_neg pe_int) (fun _ _ => rfl)) (pe_op op_add (pv 6) (pv 7)) (pv 1)) (pss_one (ps_dput (hu_of hr) (pv 5) (pe_op op_add (pv 6) (pv 7)) pe_bl rfl)) pss_nil)))))
      (pss_one (ps_ret (pe_sortedR rfl B2.sorted (pe_callTy (he := star_Name) (call_list_dict rfl) rfl B.list bt_list (pa_cons (pv 5) pa_nil star_Name)))))))))), ?_⟩
  refine ⟨_, rfl, _, rfl, a, _, _, _, rfl, rfl, hS, last_at hpos, ?_⟩
  refine ⟨_, rfl, k, rfl, by omega, by omega, ?_⟩
  rw [show ((k : Int)).toNat = k by omega]
  refine for_range (fun i σ H' => H' = H ∧ ∃ o4 : Option V, σ = [some (.ref a), some (.int n), some (.int k), some (.int (end' cs * 2 ^ i)), o4, none, none, none]) ⟨rfl, none, by simp [L2.start]⟩ ?_ ?_
  · rintro i σ H' hi ⟨rfl, o4, rfl⟩
    refine ⟨_, rfl, _, _, rfl, rfl, .inr ⟨by decide, by decide⟩, rfl, some (.int (0 + (i : Int))), ?_⟩
    rw [Int.pow_succ, ← Int.mul_assoc]
    rfl
  rintro σ H' ⟨rfl, o4, rfl⟩
  have nil : ∀ D : Ends, prn n k cs = true → ∀ (p : Addr), H' p = none → Q (.ref p) (upd H' p (.lst [])) := fun D hp p hpn => by
    refine q p _ (same_new hpn _) hpn ?_
    rw [upd_same]
    unfold next
    rw [if_pos hp]
    rfl
  refine ⟨_, rfl, _, rfl, _, _, rfl, rfl, _, rfl, ?_⟩
  refine ite2 (fun c => ?_) (fun c => ?_)
  · have c' : end' cs * 2 ^ k < n := of_decide_eq_true c
    exact ⟨smalls, fun p hp => nil { nx := fun _ _ => True, rt := fun _ _ => True } (by unfold prn; rw [decide_eq_true c']; rfl) p hp⟩
  have c1 : ¬ end' cs * 2 ^ k < n := of_decide_eq_false (Bool.eq_false_iff.mpr c)
  refine ⟨_, rfl, _, rfl, a, _, _, _, rfl, rfl, hS, last_at hpos, _, rfl, _, _, rfl, rfl, _, rfl, ?_⟩
  refine ite2 (fun c => ?_) (fun c => ?_)
  · have c' : n ≤ end' cs := of_decide_eq_true c
    exact ⟨smalls, fun p hp => nil { nx := fun _ _ => True, rt := fun _ _ => True } (by unfold prn; rw [decide_eq_true c', Bool.or_true]) p hp⟩
  have c2 : ¬ n ≤ end' cs := of_decide_eq_false (Bool.eq_false_iff.mpr c)
  have hnx : next n k cs = tots n cs := by
    unfold next prn
    rw [decide_eq_false c1, decide_eq_false c2]
    rfl
  rw [hnx] at q
  refine fun d hd => ?_
  refine ⟨_, rfl, a, rfl, ⟨_, (same_new hd _).seq hS⟩, ?_⟩
  -- the sums of the first i numbers with all, and of the next one with the first j
  refine for_list (xs := cs.map V.int) (fun i σ H2 => ∃ (ks : List Int) (o6 o7 : Option V), σ = [some (.ref a), some (.int n), some (.int k), some (.int (end' cs * 2 ^ k)), o4, some (.ref d), o6, o7] ∧ Same H' H2 ∧ H2 d = some (.dK (ks.map fun k => ((Sum.inl k : Key), V.bl true))) ∧ ks.Nodup ∧
      ∀ x, x ∈ ks ↔ end' cs < x ∧ x ≤ n ∧ ∃ p, p < i ∧ ∃ b ∈ cs, at' cs p + b = x) ⟨[], none, none, rfl, same_new hd _, upd_same, .nil, fun x => ⟨fun z => by simp at z, fun ⟨_, _, p, hp, _⟩ => absurd hp (Nat.not_lt_zero _)⟩⟩ (fun i σ H2 _ ⟨ks, o6, o7, _, g, _⟩ => g.seq hS) ?_ ?_
  · rintro i x σ H2 hx ⟨ks, o6, o7, rfl, g, hk2, hnd, hmem⟩
    obtain ⟨hi, rfl⟩ := int_elem hx
    have ei : cs[i] = at' cs i := by
      unfold at'
      rw [List.getD_eq_getElem?_getD, List.getElem?_eq_getElem hi]
      rfl
    rw [ei]
    refine ⟨_, rfl, a, rfl, ⟨_, g.seq hS⟩, ?_⟩
    refine for_list (xs := cs.map V.int) (fun j σ H3 => ∃ (ks : List Int) (o7 : Option V), σ = [some (.ref a), some (.int n), some (.int k), some (.int (end' cs * 2 ^ k)), o4, some (.ref d), some (.int (at' cs i)), o7] ∧ Same H' H3 ∧ H3 d = some (.dK (ks.map fun k => ((Sum.inl k : Key), V.bl true))) ∧ ks.Nodup ∧
        ∀ x, x ∈ ks ↔ end' cs < x ∧ x ≤ n ∧ ((∃ p, p < i ∧ ∃ b ∈ cs, at' cs p + b = x) ∨ ∃ r, r < j ∧ at' cs i + at' cs r = x))
      ⟨ks, _, rfl, g, hk2, hnd, fun x => by
        rw [hmem x]
        constructor
        · rintro ⟨h1, h2, h3⟩; exact ⟨h1, h2, .inl h3⟩
        · rintro ⟨h1, h2, h3 | ⟨r, hr', _⟩⟩
          · exact ⟨h1, h2, h3⟩
          · exact absurd hr' (Nat.not_lt_zero _)⟩ (fun j σ H3 _ ⟨ks, o7, _, g3, _⟩ => g3.seq hS) ?_ ?_
    · rintro j y σ H3 hy ⟨ks3, o7, rfl, g3, hk3, hnd3, hmem3⟩
      obtain ⟨hj, rfl⟩ := int_elem hy
      have ej : cs[j] = at' cs j := by
        unfold at'
        rw [List.getD_eq_getElem?_getD, List.getElem?_eq_getElem hj]
        rfl
      rw [ej]
      have stay : ¬ (end' cs < at' cs i + at' cs j ∧ at' cs i + at' cs j ≤ n) → ∀ x, x ∈ ks3 ↔ end' cs < x ∧ x ≤ n ∧ ((∃ p, p < i ∧ ∃ b ∈ cs, at' cs p + b = x) ∨ ∃ r, r < j + 1 ∧ at' cs i + at' cs r = x) := fun hno x => by
        rw [hmem3 x]
        constructor
        · rintro ⟨h1, h2, h3 | ⟨r, hr', e⟩⟩
          · exact ⟨h1, h2, .inl h3⟩
          · exact ⟨h1, h2, .inr ⟨r, by omega, e⟩⟩
        · rintro ⟨h1, h2, h3 | ⟨r, hr', e⟩⟩
          · exact ⟨h1, h2, .inl h3⟩
          · by_cases er : r = j
            · subst er
              rw [← e] at h1 h2
              exact absurd ⟨h1, h2⟩ hno
            · exact ⟨h1, h2, .inr ⟨r, by omega, e⟩⟩
      have hkl : ks3.length ≤ 60 := nodup_len 60 ks3 hnd3 fun x hx => by
        obtain ⟨h1, h2, _⟩ := (hmem3 x).mp hx
        omega
      refine ⟨_, rfl, _, rfl, a, _, _, _, rfl, rfl, g3.seq hS, last_at hpos, _, rfl, _, rfl, _, _, rfl, rfl, _, _, rfl, rfl, _, rfl, ?_⟩
      refine ite2 (fun c => ?_) (fun c => ⟨_, rfl, iteF ?_⟩)
      · have c3 : end' cs < at' cs i + at' cs j := of_decide_eq_true c
        refine ⟨_, rfl, _, _, rfl, rfl, _, rfl, ?_⟩
        refine ite2 (fun c => ?_) (fun c => ?_)
        · have c4 : at' cs i + at' cs j ≤ n := of_decide_eq_true c
          refine ⟨_, rfl, _, rfl, _, rfl, _, _, rfl, rfl, d, _, rfl, DPut.k (k := Sum.inl (at' cs i + at' cs j)) hk3 (by rw [List.length_map]; exact smallT (by omega)), ?_⟩
          obtain ⟨ks', e', nd', m'⟩ := putK_flag (t := at' cs i + at' cs j) hnd3
          rw [e']
          refine ⟨ks', _, rfl, g3.upd hd, upd_same, nd', fun x => ?_⟩
          rw [m' x, hmem3 x]
          constructor
          · rintro (⟨h1, h2, h3 | ⟨r, hr', e⟩⟩ | e)
            · exact ⟨h1, h2, .inl h3⟩
            · exact ⟨h1, h2, .inr ⟨r, by omega, e⟩⟩
            · subst e; exact ⟨c3, c4, .inr ⟨j, by omega, rfl⟩⟩
          · rintro ⟨h1, h2, h3 | ⟨r, hr', e⟩⟩
            · exact .inl ⟨h1, h2, .inl h3⟩
            · by_cases er : r = j
              · subst er; exact .inr e.symm
              · exact .inl ⟨h1, h2, .inr ⟨r, by omega, e⟩⟩
        · have c4 : ¬ at' cs i + at' cs j ≤ n := of_decide_eq_false (Bool.eq_false_iff.mpr c)
          exact ⟨ks3, _, rfl, g3, hk3, hnd3, stay fun z => c4 z.2⟩
      · have c3 : ¬ end' cs < at' cs i + at' cs j := of_decide_eq_false (Bool.eq_false_iff.mpr c)
        exact ⟨ks3, _, rfl, g3, hk3, hnd3, stay fun z => c3 z.1⟩
    · rintro σ H3 ⟨ks3, o7, rfl, g3, hk3, hnd3, hmem3⟩
      refine ⟨ks3, _, _, rfl, g3, hk3, hnd3, fun x => ?_⟩
      rw [hmem3 x, List.length_map]
      constructor
      · rintro ⟨h1, h2, ⟨p, hp, r⟩ | ⟨r, hr', e⟩⟩
        · exact ⟨h1, h2, p, by omega, r⟩
        · exact ⟨h1, h2, i, by omega, at' cs r, at_mem hr', e⟩
      · rintro ⟨h1, h2, p, hp, b, hb, e⟩
        by_cases ep : p = i
        · subst ep
          obtain ⟨r, hr', er⟩ := mem_at hb
          exact ⟨h1, h2, .inr ⟨r, hr', by rw [er]; exact e⟩⟩
        · exact ⟨h1, h2, .inl ⟨p, by omega, b, hb, e⟩⟩
  · rintro σ H2 ⟨ks, o6, o7, rfl, g, hk2, hnd, hmem⟩
    have mem2 : ∀ x, x ∈ ks ↔ x ∈ tots n cs := fun x => by
      rw [hmem x, mem_tots (by omega), List.length_map]
      constructor
      · rintro ⟨h1, h2, p, hp, b, hb, e⟩
        exact ⟨h1, h2, at' cs p, at_mem hp, b, hb, e⟩
      · rintro ⟨h1, h2, a', ha, b, hb, e⟩
        obtain ⟨p, hp, ep⟩ := mem_at ha
        exact ⟨h1, h2, p, hp, b, hb, by rw [ep]; exact e⟩
    have hperm : ks.Perm (tots n cs) := by
      rw [List.perm_ext_iff_of_nodup hnd ((tots_desc n cs).imp fun h => Int.ne_of_gt h)]
      exact mem2
    have hl64 : ks.length < 64 := by
      rw [hperm.length_eq]
      exact tots_len n cs hn hu
    refine ⟨_, rfl, d, _, rfl, hk2, fun l hl => ?_⟩
    have ekeys : (ks.map fun k => ((Sum.inl k : Key), V.bl true)).map (fun kv => kV kv.1) = ks.map V.int := by
      rw [List.map_map]
      rfl
    refine ⟨l, ks, rfl, SqL.of (by rw [upd_same, ekeys]), hl64, fun l2 ms hl2 hp ho => ?_⟩
    have ems : ms = tots n cs := desc_eq (desc_of ho (hp.nodup_iff.mpr hnd)) (tots_desc n cs) fun x => by rw [hp.mem_iff]; exact mem2 x
    subst ems
    exact q l2 _ (g.trans ((same_new hl _).trans (same_new hl2 _))) (g.free ((same_new hl _).free hl2)) upd_same
end

/-! ### _law_reaches -/
theorem dec_ii (x y : Int) : decide (V.int x = V.int y) = decide (x = y) := by
  rw [Bool.eq_iff_iff]
  simp
open ML SR in
def spReaches (m : Nat) : Sp := fun vs H Q _ => ∃ (a : Addr) (cs : List Int) (n : Int) (k : Nat), vs = [.ref a, .int n, .int k] ∧ H a = some (.lst (cs.map V.int)) ∧ k < m ∧ cs.length + k ≤ 90 ∧ Up cs ∧ n ≤ 60 ∧
  ∀ H', Same H H' → Q (.bl (rch n k cs)) H'
section
variable {P : Program} {w : World} {K : PySem.W.Frag} {mg : Str → Option Value} {base : Heap}
open ML SR in
theorem ok_reaches {c : Nat} (B : Bts mg) (D_law_reaches : Def K mg "_law_reaches" ["chain", "number", "steps"] s_law_reaches) (C0 : Cal P w K mg base c "_law_totals" ["chain", "number", "steps"] (spTotals K)) : ∀ m : Nat, Cal P w K mg base (c + m + 1) "_law_reaches" ["chain", "number", "steps"] (spReaches m)
  | 0 => by
    obtain ⟨f, fd, F, b, mm⟩ := D_law_reaches.ex
    have no : ∀ vs H Q E, ¬ spReaches 0 vs H Q E := fun vs H Q E h => by
      obtain ⟨a, cs, n, k, _, _, h2, _⟩ := h
      omega
    exact ⟨f, fd, ⟨fun vs H Q E h => absurd h (no vs H Q E), fun A outer s H args us vs Q E _ _ _ _ h => absurd h (no vs H Q E)⟩, b, F.kp, mm⟩
  | m + 1 => by
    have C_law_reaches := ok_reaches B D_law_reaches C0 m
    have C_law_totals : Cal P w K mg base (c + m + 1) "_law_totals" ["chain", "number", "steps"] (spTotals K) := C0.mono (by omega)
    refine D_law_reaches.cal sc_law_reaches (fun vs H Q E h => ?_) (fun f cdv A outer s H vs Q E hr h => ?_)
    · obtain ⟨a, cs, n, k, rfl, _⟩ := h
      rfl
    obtain ⟨a, cs, n, k, rfl, ha, hk, hz, hu, hn, q⟩ := h
    have hpos := hu.pos
    refine ⟨_, (pss_cons (ps_if (pt_cmpR op_eq (pv 2) pe_int (nomark _)) (pss_one (ps_ret (pe_cmpR op_eq (pe_ix ix_list (pv 0) (pe_un un_neg pe_int) (fun _ _ => rfl)) (pv 1) (nomark _)))) pss_nil)
      (pss_cons (ps_for PassesOwn.never rfl (pi_list (pe_callC (he := star_Name) C_law_totals hr rfl (pa_cons (pv 0) (pa_cons (pv 1) (pa_cons (pv 2) pa_nil star_Name) star_Name) star_Name))) (pg_name (i := 3) sc_law_reaches.nd rfl (Or.inl rfl)) (pss_one (ps_if (pt_val (pe_callC (he := star_BinOp) C_law_reaches hr rfl (pa_cons (pe_op op_cat (pv 0) (pe_lst (pa_cons (pv 3) pa_nil star_Name))) (pa_cons (pv 1) (pa_cons (pe_op op_sub (pv 2) pe_int) pa_nil star_BinOp) star_Name) star_BinOp))) (pss_one (ps_ret pe_bl)) pss_nil)))
      (pss_one (ps_ret pe_bl)))), ?_⟩
    refine ⟨_, rfl, rfl, _, rfl, ?_⟩
    refine ite2 (fun c => ?_) (fun c => ?_)
    · have c' : (k : Int) = 0 := by
        have := of_decide_eq_true c
        injection this
      have hk0 : k = 0 := by omega
      subst hk0
      refine ⟨_, rfl, _, rfl, a, _, _, _, rfl, rfl, SqL.of ha, last_at hpos, _, rfl, rfl, ?_⟩
      rw [dec_ii]
      exact q H (Same.refl _)
    · have hk0 : k ≠ 0 := fun e => c (decide_eq_true (by rw [e]; rfl))
      obtain ⟨j, rfl⟩ : ∃ j, k = j + 1 := ⟨k - 1, by omega⟩
      refine ⟨_, rfl, _, rfl, _, rfl, a, cs, n, j + 1, rfl, SqL.of ha, by omega, hu, hn, by omega, fun rt H1 g1 hrt et => ?_⟩
      refine ⟨rt, rfl, ⟨_, SqL.of et⟩, ?_⟩
      refine for_list (xs := (next n (j + 1) cs).map V.int) (fun i σ H2 => ∃ o3 : Option V, σ = [some (.ref a), some (.int n), some (.int ((j + 1 : Nat) : Int)), o3] ∧ Same H1 H2 ∧ ∀ p, p < i → ∀ t, (next n (j + 1) cs)[p]? = some t → rch n j (cs ++ [t]) = false)
        ⟨none, rfl, Same.refl _, fun p hp => absurd hp (Nat.not_lt_zero _)⟩ (fun i σ H2 _ ⟨o3, _, g, _⟩ => SqL.of (g _ _ et)) ?_ ?_
      · rintro i x σ H2 hx ⟨o3, rfl, g2, hf⟩
        obtain ⟨hi, rfl⟩ := int_elem hx
        have hm := mem_next (List.getElem_mem hi)
        refine ⟨_, rfl, _, rfl, smalls, fun p1 hp1 => ?_⟩
        have n1 := same_new hp1 (.lst [.int (next n (j + 1) cs)[i]])
        refine ⟨a, p1, _, _, rfl, rfl, n1 _ _ (g2 _ _ (g1 _ _ ha)), upd_same, by rw [List.length_map, List.length_singleton]; exact small (by omega), fun p2 hp2 => ?_⟩
        have n2 := same_new hp2 (.lst (cs.map V.int ++ [.int (next n (j + 1) cs)[i]]))
        refine ⟨_, rfl, _, rfl, _, _, rfl, rfl, p2, cs ++ [(next n (j + 1) cs)[i]], n, j, ?_, ?_, by omega, by rw [List.length_append, List.length_singleton]; omega, hu.snoc hm.1, hn, fun H3 g3 => ⟨_, rfl, ?_⟩⟩
        · show [V.ref p2, V.int n, V.int (((j + 1 : Nat) : Int) - 1)] = _
          rw [show ((j + 1 : Nat) : Int) - 1 = (j : Int) by omega]
        · rw [upd_same, List.map_append]
          rfl
        refine ite2 (fun c => ?_) (fun c => ?_)
        · have e : rch n (j + 1) cs = true := by
            show ((next n (j + 1) cs).any fun t => rch n j (cs ++ [t])) = true
            rw [List.any_eq_true]
            exact ⟨_, List.getElem_mem hi, c⟩
          rw [e] at q
          exact q H3 (g1.trans (g2.trans (n1.trans (n2.trans g3))))
        · refine ⟨_, rfl, g2.trans (n1.trans (n2.trans g3)), fun p hp t ht => ?_⟩
          by_cases ep : p = i
          · subst ep
            rw [List.getElem?_eq_getElem hi] at ht
            cases ht
            exact Bool.eq_false_iff.mpr c
          · exact hf p (by omega) t ht
      · rintro σ H2 ⟨o3, rfl, g2, hf⟩
        rw [List.length_map] at hf
        have e : rch n (j + 1) cs = false := by
          show ((next n (j + 1) cs).any fun t => rch n j (cs ++ [t])) = false
          rw [List.any_eq_false]
          intro t ht
          obtain ⟨p, hp, ep⟩ := List.mem_iff_getElem.mp ht
          rw [hf p hp t (by rw [List.getElem?_eq_getElem hp, ep])]
          exact Bool.false_ne_true
        rw [e] at q
        exact q H2 (g1.trans g2)
end

/-! ### _law_least -/
open ML SR in
def spLeastLaw : Sp := fun vs H Q _ => ∃ (n : Int) (k0 : Nat), vs = [.int n] ∧ n ≤ 60 ∧ k0 < 20 ∧ rch n k0 [1] = true ∧ (∀ j, j < k0 → rch n j [1] = false) ∧ ∀ H', Same H H' → Q (.int k0) H'
section
variable {P : Program} {w : World} {K : PySem.W.Frag} {mg : Str → Option Value} {base : Heap}
open ML SR in
theorem ok_leastlaw {k : Nat} (B : Bts mg) (D_law_least : Def K mg "_law_least" ["number"] s_law_least) (C_law_reaches : Cal P w K mg base k "_law_reaches" ["chain", "number", "steps"] (spReaches 20)) : Cal P w K mg base (k + 1) "_law_least" ["number"] spLeastLaw := by
  refine D_law_least.cal sc_law_least (fun vs H Q E h => ?_) (fun f cdv A outer s H vs Q E hr h => ?_)
  · obtain ⟨n, k0, rfl, _⟩ := h
    rfl
  obtain ⟨n, k0, rfl, hn, hk, ht, hf, q⟩ := h
  refine ⟨_, (pss_cons (ps_set (i := 1) sc_law_least.nd rfl (Or.inl rfl) pe_int)
      (pss_cons (ps_while PassesOwn.never (pt_not (pt_val (pe_callC (he := star_List) C_law_reaches hr rfl (pa_cons (pe_lst (pa_cons pe_int pa_nil star_Constant)) (pa_cons (pv 0) (pa_cons (pv 1) pa_nil star_Name) star_Name) star_List)))) (pss_one (ps_set (i := 1) sc_law_least.nd rfl (Or.inl rfl) (pe_op op_add (pv 1) pe_int))))
      (pss_one (ps_ret (pv 1))))), ?_⟩
  refine ⟨fun m σ H' => ∃ j : Nat, m = k0 - j ∧ j ≤ k0 ∧ σ = [some (.int n), some (.int j)] ∧ Same H H', ⟨k0, 0, by omega, by omega, rfl, Same.refl _⟩, ?_⟩
  rintro m σ H' ⟨j, rfl, hj, rfl, g⟩
  refine ⟨smalls, fun p hp => ⟨_, rfl, _, rfl, p, [1], n, j, rfl, upd_same, by omega, by simp; omega, Up.one, hn, fun H2 g2 => ⟨_, rfl, ?_⟩⟩⟩
  have G := g.trans ((same_new hp _).trans g2)
  by_cases e : j = k0
  · subst e
    rw [ht]
    exact iteF ⟨_, rfl, q H2 G⟩
  · rw [hf j (by omega)]
    refine iteT ⟨fun σ' H'' => ∃ m', m' < k0 - j ∧ ∃ j : Nat, m' = k0 - j ∧ j ≤ k0 ∧ σ' = [some (.int n), some (.int j)] ∧ Same H H'', fun _ _ z => z, ?_⟩
    refine ⟨_, rfl, _, _, rfl, rfl, k0 - (j + 1), by omega, j + 1, rfl, by omega, ?_, G⟩
    rfl
end

/-! ### what is asked of a look whether numbers are a chain -/
open ML in
def spIsChain (K : PySem.W.Frag) : Sp := fun vs H Q _ => ∃ (a : Addr) (ns : List Int), vs = [.ref a] ∧ SqL K H a (ns.map V.int) ∧ ns.length ≤ 1000 ∧ ∀ (b : Bool) (H' : Hp), Same H H' → (b = true ↔ Chn ns) → Q (.bl b) H'

/-! ### _law_is_chain -/
theorem cut_to (xs : List V) (k : Nat) : cutV xs none (some (k : Int)) = xs.take k := by
  unfold cutV
  rw [HT.sIx_none, HT.sIx_nat, List.drop_zero, Nat.sub_zero]
  by_cases h : k ≤ xs.length
  · rw [Nat.min_eq_left h]
  · rw [Nat.min_eq_right (by omega), List.take_length, List.take_of_length_le (by omega)]
open ML in
/-- the keys are the numbers of the places below q -/
def Keys (ns : List Int) (kvs : List (Key × V)) (q : Nat) : Prop := ∀ v : Int, (valV kvs (Sum.inl v)).isSome = true ↔ ∃ b, b < q ∧ at' ns b = v
section
variable {P : Program} {w : World} {K : PySem.W.Frag} {mg : Str → Option Value} {base : Heap}
open ML in
theorem ok_lawischain {k : Nat} (B : Bts mg) (D_law_is_chain : Def K mg "_law_is_chain" ["chain"] s_law_is_chain) : Cal P w K mg base (k + 1) "_law_is_chain" ["chain"] (spIsChain K) := by
  refine D_law_is_chain.cal sc_law_is_chain (fun vs H Q E h => ?_) (fun f cdv A outer s H vs Q E hr h => ?_)
  · obtain ⟨a, ns, rfl, _⟩ := h
    rfl
  obtain ⟨a, ns, rfl, hS, hz, q⟩ := h
  have hlen : (((ns.map V.int).length : Nat) : Int) = (ns.length : Int) := by rw [List.length_map]
  refine ⟨_, (pss_cons (ps_if (PW.pt (pw_or (pt_not (pt_chain op_le op_le pe_int (pe_callB (he := star_Name) call_len_seq rfl B.len bt_len (pa_cons (pv 0) pa_nil star_Name)) pe_int)) (pw_or1 (pt_cmpR op_ne (pe_ix ix_list (pv 0) pe_int (fun _ _ => rfl)) pe_int (nomark _))))) (pss_one (ps_ret pe_bl)) pss_nil)
      (pss_cons (ps_set (i := 1) sc_law_is_chain.nd rfl (Or.inr rfl) (pe_disp (pps_cons pe_int pe_bl pps_nil) rfl rfl (by simp) (by decide)))
      (pss_cons (ps_for PassesOwn.never rfl (pi_range2 rfl B.range (pa_cons pe_int (pa_cons (pe_callB (he := star_Name) call_len_seq rfl B.len bt_len (pa_cons (pv 0) pa_nil star_Name)) pa_nil star_Call) star_Constant)) (pg_name (i := 2) sc_law_is_chain.nd rfl (Or.inr rfl)) (pss_cons (ps_if (pt_cmpR op_le (pe_ix ix_list (pv 0) (pv 2) (fun _ _ => rfl)) (pe_ix ix_list (pv 0) (pe_op op_sub (pv 2) pe_int) (fun _ _ => rfl)) (nomark _)) (pss_one (ps_ret pe_bl)) pss_nil)
      (pss_cons (ps_if (pt_cmpR op_eq (pe_callB (he := star_ListComp) call_len_seq rfl B.len bt_len (pa_cons (pe_comp (js := [0, 2, 1]) (L := ["chain", "place", "known"]) rfl (pi_list (pe_slice sl_list (pv 0) po_none (po_some (pv 2)))) (comp_ok (sc := defScope s_law_is_chain) rfl ⟨⟨rfl, rfl, rfl⟩, ⟨⟨rfl, rfl, rfl⟩, ⟨⟨rfl, rfl, rfl⟩, trivial⟩⟩⟩) (fun _ => pifs_one (pt_cmp (pc_din (hu_of hr) (pe_op op_sub (pe_ix ix_listB (pv 1) (pv 2) (fun _ _ => rfl)) (pv 0)) (pv 3)))) (fun _ => (pv 0))) pa_nil star_ListComp)) pe_int (nomark _)) (pss_one (ps_ret pe_bl)) pss_nil)
      (pss_one (ps_dput (hu_of hr) (pv 1) (pe_ix ix_list (pv 0) (pv 2) (fun _ _ => rfl)) pe_bl rfl)))))
      (pss_one (ps_ret pe_bl))))), ?_⟩
  refine ⟨_, rfl, a, _, rfl, .inl hS, _, _, rfl, rfl, _, rfl, ?_⟩
  rw [hlen]
  refine ite2 (fun c => ?_) (fun c => ?_)
  rotate_left
  · have c' : ¬ (1 : Int) ≤ (ns.length : Int) := of_decide_eq_false (Bool.eq_false_iff.mpr c)
    refine ⟨_, rfl, iteT ?_⟩
    exact iteT (q false H (Same.refl _) ⟨(fun z => nomatch z), fun z => absurd z.1 (by omega)⟩)
  have c1 : (1 : Int) ≤ (ns.length : Int) := of_decide_eq_true c
  refine ⟨_, _, rfl, rfl, _, rfl, ?_⟩
  refine ite2 (fun c => ?_) (fun c => ?_)
  · have c' : ¬ (ns.length : Int) ≤ 250 := fun z => by rw [decide_eq_true z] at c; cases c
    exact iteT (q false H (Same.refl _) ⟨(fun z => nomatch z), fun z => absurd z.2.1 (by omega)⟩)
  have c2 : (ns.length : Int) ≤ 250 := by
    by_cases z : (ns.length : Int) ≤ 250
    · exact z
    · rw [decide_eq_false z] at c
      exact absurd rfl c
  refine ⟨_, rfl, a, _, _, _, rfl, rfl, hS, nat_at (k := 0) (by omega), rfl, _, rfl, ?_⟩
  refine ite2 (fun c => q false H (Same.refl _) ⟨(fun z => nomatch z), fun z => ?_⟩) (fun c => ?_)
  · have e : V.int (at' ns 0) = V.int 1 := by rw [z.2.2.1]
    rw [decide_eq_true e] at c
    cases c
  have c3 : at' ns 0 = 1 := by
    by_cases e : V.int (at' ns 0) = V.int 1
    · injection e
    · rw [decide_eq_false e] at c
      exact absurd rfl c
  refine fun d hd => ⟨upd_same, [(Sum.inl 1, .bl true)], rfl, by decide, ?_⟩
  have S1 : SqL K (upd (upd H d (.dK [])) d (.dK (mergeK [] [(Sum.inl 1, .bl true)]))) a (ns.map V.int) := ((same_new hd _).upd hd).seq hS
  refine ⟨_, rfl, a, _, rfl, .inl S1, _, _, rfl, ⟨by decide, by decide, by rw [hlen]; omega, by rw [hlen]; omega⟩, ?_⟩
  rw [hlen]
  have ht : (((ns.length : Int) - 1).toNat : Int) = (ns.length : Int) - 1 := by omega
  refine for_range (fun i σ H' => ∃ (o : Option V) (kvs : List (Key × V)), σ = [some (.ref a), some (.ref d), o] ∧ Same H H' ∧ H' d = some (.dK kvs) ∧ kvs.length ≤ i + 1 ∧ Keys ns kvs (i + 1) ∧ Upto ns (i + 1))
    ⟨none, _, rfl, (same_new hd _).upd hd, upd_same, by decide, ?_, fun p h1 h2 => by omega⟩ ?_ ?_
  · intro v
    show (valV [((Sum.inl 1 : Key), V.bl true)] (Sum.inl v)).isSome = true ↔ _
    by_cases e : v = 1
    · subst e
      rw [valV_pos rfl]
      exact ⟨fun _ => ⟨0, by omega, c3⟩, fun _ => rfl⟩
    · rw [valV_neg (fun z => e (Sum.inl.inj z).symm), valV_nil]
      refine ⟨(fun z => nomatch z), fun ⟨b, hb, eb⟩ => ?_⟩
      have : b = 0 := by omega
      subst this
      exact absurd (eb.symm.trans c3) e
  · rintro i σ H' hi ⟨o, kvs, rfl, g, hk, hkl, hkey, hu⟩
    have hS' := g.seq hS
    have ep : (1 : Int) + (i : Int) = ((i + 1 : Nat) : Int) := by omega
    rw [ep]
    refine ⟨_, rfl, _, rfl, a, _, _, _, rfl, rfl, hS', nat_at (by omega), _, rfl, _, rfl, _, _, rfl, rfl, a, _, _, _, rfl, rfl, hS', (show atI (ns.map V.int) (((i + 1 : Nat) : Int) - 1) = some (.int (at' ns i)) by rw [show ((i + 1 : Nat) : Int) - 1 = (i : Int) by omega]; exact nat_at (by omega)), _, _, rfl, rfl, _, rfl, ?_⟩
    refine ite2 (fun c => q false H' g ⟨(fun z => nomatch z), fun z => ?_⟩) (fun c => ?_)
    · have c' : at' ns (i + 1) ≤ at' ns i := of_decide_eq_true c
      have := (z.2.2.2 (i + 1) (by omega) (by omega)).1
      simp only [Nat.add_sub_cancel] at this
      omega
    have c4 : ¬ at' ns (i + 1) ≤ at' ns i := of_decide_eq_false (Bool.eq_false_iff.mpr c)
    refine ⟨_, rfl, _, rfl, _, rfl, a, _, rfl, hS', fun p0 hp0 => ⟨p0, rfl, ⟨_, SqL.of upd_same⟩, fun p hp => ?_⟩⟩
    have hne : p0 ≠ p := ne_of_none upd_same hp
    have hd0 : d ≠ p0 := ne_of_none hk hp0
    have g0 : Same H' (upd H' p0 (.lst (cutV (ns.map V.int) none (some ((i + 1 : Nat) : Int))))) := same_new hp0 _
    have exs : cutV (ns.map V.int) none (some ((i + 1 : Nat) : Int)) = (ns.take (i + 1)).map V.int := by rw [cut_to, List.map_take]
    rw [exs] at g0 hp ⊢
    have hxl : (ns.take (i + 1)).length = i + 1 := by rw [List.length_take]; omega
    refine comp_list (xs := (ns.take (i + 1)).map V.int) p (fun j ys H2 => Same (upd H' p0 (.lst ((ns.take (i + 1)).map V.int))) H2 ∧ H2 p = some (.lst ys) ∧ ys.length ≤ j ∧ (ys = [] ↔ ∀ a' b, a' < j → b < i + 1 → ¬ at' ns a' + at' ns b = at' ns (i + 1)))
      ⟨same_new hp _, upd_same, Nat.le_refl _, ⟨fun _ a' b h => by omega, fun _ => rfl⟩⟩ (fun j ys H2 _ ⟨h1, h2, _⟩ => ⟨SqL.of (h1 _ _ upd_same), h2⟩) ?_ ?_
    · rintro j x ys H2 hx ⟨h1, h2, h3, h4⟩
      have hj : j < i + 1 := by
        have := (List.getElem?_eq_some_iff.mp hx).1
        rwa [List.length_map, hxl] at this
      have ex : x = .int (at' ns j) := by
        rw [List.getElem?_map, List.getElem?_take_of_lt hj] at hx
        have hjl : j < ns.length := by omega
        rw [List.getElem?_eq_getElem hjl] at hx
        cases hx
        simp [at', List.getD, List.getElem?_eq_getElem hjl]
      subst ex
      have hk2 : H2 d = some (.dK kvs) := h1 _ _ (g0 _ _ hk)
      have hS2 : SqL K H2 a (ns.map V.int) := h1.seq (g0.seq hS')
      refine ⟨_, rfl, _, rfl, a, _, _, _, rfl, rfl, hS2, nat_at (by omega), _, rfl, _, _, rfl, rfl, _, rfl, d, _, rfl, DGet.k (k := Sum.inl (at' ns (i + 1) - at' ns j)) hk2, _, rfl, ?_⟩
      refine ite2 (fun c => ?_) (fun c => ?_)
      · obtain ⟨b, hb, eb⟩ := (hkey _).mp c
        refine ⟨_, rfl, h2, smallT (by omega), (h1.upd hp), upd_same, by rw [List.length_append, List.length_singleton]; omega, ?_⟩
        refine ⟨fun z => by simp at z, fun z => absurd ?_ (z j b (by omega) hb)⟩
        omega
      · refine ⟨h1, h2, by omega, h4.trans ⟨fun z a' b ha hb => ?_, fun z a' b ha hb => z a' b (by omega) hb⟩⟩
        by_cases ea : a' = j
        · subst ea
          intro e
          exact c ((hkey _).mpr ⟨b, hb, by omega⟩)
        · exact z a' b (by omega) hb
    · rintro ys H2 ⟨h1, h2, h3, h4⟩
      rw [List.length_map, hxl] at h3 h4
      refine ⟨p, ys, rfl, .inl (SqL.of h2), rfl, _, rfl, ?_⟩
      have gH : Same H H2 := g.trans (g0.trans h1)
      refine ite2 (fun c => ?_) (fun c => ?_)
      · have e0 : ys = [] := by
          have := of_decide_eq_true c
          injection this with e
          exact List.eq_nil_of_length_eq_zero (by omega)
        refine q false H2 gH ⟨(fun z => nomatch z), fun z => ?_⟩
        obtain ⟨i', j', t1, t2, t3⟩ := (z.2.2.2 (i + 1) (by omega) (by omega)).2
        exact absurd t3 (h4.mp e0 i' j' (by omega) t2)
      · have ne0 : ys ≠ [] := fun e => c (decide_eq_true (by rw [e]; rfl))
        have ex : ∃ i' j', Two ns (i + 1) i' j' := by
          apply Classical.byContradiction
          intro no
          refine ne0 (h4.mpr fun a' b ha hb e => no (two_of_any ha hb e))
        have hk2 : H2 d = some (.dK kvs) := h1 _ _ (g0 _ _ hk)
        have hS2 : SqL K H2 a (ns.map V.int) := h1.seq (g0.seq hS')
        refine ⟨_, rfl, _, rfl, _, rfl, a, _, _, _, rfl, rfl, hS2, nat_at (by omega), d, _, rfl, DPut.k (k := Sum.inl (at' ns (i + 1))) hk2 (smallT (by omega)), ?_⟩
        have hpk := length_putK kvs (Sum.inl (at' ns (i + 1))) (V.bl true)
        refine ⟨_, _, rfl, gH.upd hd, upd_same, by omega, fun v => ?_, hu.next (by simp only [Nat.add_sub_cancel]; omega) ex⟩
        rw [valV_put]
        by_cases ev : v = at' ns (i + 1)
        · rw [if_pos (congrArg Sum.inl ev)]
          exact ⟨fun _ => ⟨i + 1, by omega, ev.symm⟩, fun _ => rfl⟩
        · rw [if_neg (fun z => ev (Sum.inl.inj z)), hkey]
          refine ⟨fun ⟨b, hb, eb⟩ => ⟨b, by omega, eb⟩, fun ⟨b, hb, eb⟩ => ⟨b, ?_, eb⟩⟩
          by_cases e2 : b = i + 1
          · subst e2; exact absurd eb.symm ev
          · omega
  · rintro σ H' ⟨o, kvs, rfl, g, hk, hkl, hkey, hu⟩
    refine q true H' g ⟨fun _ => ⟨by omega, by omega, c3, fun p h1 h2 => hu p h1 (by omega)⟩, fun _ => rfl⟩
end

/-! ### _law_whole, _law_numbers -/
def spWhole : Sp := fun vs H Q _ => ∃ n : Int, vs = [.int n] ∧ Q (.bl true) H
section
variable {P : Program} {w : World} {K : PySem.W.Frag} {mg : Str → Option Value} {base : Heap}
theorem ok_whole {k : Nat} (B : Bts mg) (D_law_whole : Def K mg "_law_whole" ["found"] s_law_whole) : Cal P w K mg base (k + 1) "_law_whole" ["found"] spWhole := by
  refine D_law_whole.cal sc_law_whole (fun vs H Q E h => ?_) (fun f cdv A outer s H vs Q E hr h => ?_)
  · obtain ⟨n, rfl, _⟩ := h
    rfl
  obtain ⟨n, rfl, q⟩ := h
  refine ⟨_, (pss_one (ps_ret (pe_and (pe_callB call_isinst rfl B.isinstance bt_isinstance (pa_cons (pv 0) (pa_cons (pe_bltn (v := .ty "int") rfl B.int bt_int rfl) pa_nil star_Name) star_Name)) (pe_one (pe_not (pe_callB call_isinst rfl B.isinstance bt_isinstance (pa_cons (pv 0) (pa_cons (pe_bltn (v := .ty "bool") rfl B.bool bt_bool rfl) pa_nil star_Name) star_Name))))))), ?_⟩
  refine ⟨_, rfl, .int n, .ty "int", _, "int", true, rfl, .int n, rfl, rfl, _, rfl, iteT ?_⟩
  exact ⟨_, rfl, .int n, .ty "bool", _, "bool", false, rfl, .int n, rfl, rfl, _, rfl, q⟩
end

/-! ### _law_numbers -/
def spNumbers : Sp := fun vs H Q _ => ∃ (a : Addr) (ns : List Int), vs = [.ref a] ∧ H a = some (.lst (ns.map V.int)) ∧ ns.length ≤ 1000 ∧ ∀ H', Same H H' → Q (.bl true) H'
section
variable {P : Program} {w : World} {K : PySem.W.Frag} {mg : Str → Option Value} {base : Heap}
theorem ok_numbers {k : Nat} (B : Bts mg) (D_law_numbers : Def K mg "_law_numbers" ["found"] s_law_numbers) (C_law_whole : Cal P w K mg base k "_law_whole" ["found"] spWhole) : Cal P w K mg base (k + 1) "_law_numbers" ["found"] spNumbers := by
  refine D_law_numbers.cal sc_law_numbers (fun vs H Q E h => ?_) (fun f cdv A outer s H vs Q E hr h => ?_)
  · obtain ⟨a, n, rfl, _⟩ := h
    rfl
  obtain ⟨a, ns, rfl, ha, hlen, q⟩ := h
  refine ⟨_, (pss_one (ps_ret (pe_and (pe_callB call_isinst rfl B.isinstance bt_isinstance (pa_cons (pv 0) (pa_cons (pe_bltn (v := .ty "list") rfl B.list bt_list rfl) pa_nil star_Name) star_Name)) (pe_one (pe_callB (he := star_ListComp) (call_allB rfl) rfl B.all bt_all (pa_cons (pe_comp (js := []) (L := []) rfl (pi_list (pv 0)) (comp_ok (sc := defScope s_law_numbers) rfl trivial) (fun _ => pifs_nil) (fun _ => (pe_callC (he := star_Name) C_law_whole hr rfl (pa_cons (pv 0) pa_nil star_Name)))) pa_nil star_ListComp)))))), ?_⟩
  refine ⟨_, rfl, .ref a, .ty "list", _, "list", true, rfl, .lst ha, rfl, rfl, _, rfl, iteT ?_⟩
  refine ⟨_, rfl, a, rfl, ⟨_, SqL.of ha⟩, fun p hp => ?_⟩
  refine comp_list (xs := ns.map V.int) p (fun i ys H' => Same H H' ∧ H' p = some (.lst ys) ∧ ys = List.replicate i (.bl true)) ⟨same_new hp _, upd_same, rfl⟩ (fun i ys H' hi ⟨h1, h2, h3⟩ => ⟨SqL.of (h1 _ _ ha), h2⟩) (fun i x ys H' hx ⟨h1, h2, h3⟩ => ?_) (fun ys H' ⟨h1, h2, h3⟩ => ?_)
  · have hx' : ∃ n : Int, x = .int n := by
      rw [List.getElem?_map] at hx
      cases hn : ns[i]? with
      | none => rw [hn] at hx; cases hx
      | some n => rw [hn] at hx; cases hx; exact ⟨n, rfl⟩
    obtain ⟨n, rfl⟩ := hx'
    have hi : i < ns.length := by
      have := (List.getElem?_eq_some_iff.mp hx).1
      rwa [List.length_map] at this
    refine iteA ⟨_, rfl, n, rfl, h2, ?_, ?_, upd_same, ?_⟩
    · rw [h3, List.length_replicate]; exact smallT (by omega)
    · exact h1.upd hp
    · rw [h3, List.replicate_succ']
  · refine ⟨p, List.replicate ns.length true, rfl, ?_, ?_⟩
    · rw [List.map_replicate]
      rw [h3, List.length_map] at h2
      exact SqL.of h2
    · have e : (List.replicate ns.length true).all id = true := by simp
      rw [e]
      exact q _ h1
end

/-! ### what shortest and least promise, where they are handed a good number -/
open ML SR in
def spShortest : Sp := fun vs H Q _ => ∃ n : Int, vs = [.int n] ∧ 1 ≤ n ∧ n ≤ 60 ∧
  ∀ (r : Addr) (H' : Hp) (cs : List Int) (M : Int) (k : Nat), Same H H' → H r = none → Good cs M → end' cs = n → cs.length = k + 1 → IsL n k → H' r = some (.lst (cs.map V.int)) → Q (.ref r) H'
open ML SR in
def spLeast : Sp := fun vs H Q _ => ∃ n : Int, vs = [.int n] ∧ 1 ≤ n ∧ n ≤ 60 ∧ ∀ (H' : Hp) (k : Nat), Same H H' → IsL n k → Q (.int k) H'
open ML SR D5 in
theorem has_dbl {n : Nat} (h1 : 1 ≤ n) : Has (n : Int) ((dbl n).length - 1) := by
  obtain ⟨g, _⟩ := dbl_good n h1
  exact ⟨dbl n, _, g, by have := g.pos; omega, dbl_end h1⟩
open ML SR D5 in
theorem small_least {n : Int} (h1 : 1 ≤ n) (h2 : n ≤ 60) : ∃ k, k ≤ 12 ∧ IsL n k := by
  obtain ⟨m, rfl⟩ : ∃ m : Nat, n = (m : Int) := ⟨n.toNat, by omega⟩
  have hl := dbl_len 6 m (by omega)
  obtain ⟨j, hj, hi⟩ := exists_least (has_dbl (n := m) (by omega))
  exact ⟨j, by omega, hi⟩

/-! ### refuse_beyond, fewest_floors, one_step_more -/
def spBeyond : Sp := fun vs H Q _ => ∃ n g : Int, vs = [.int n, .int g] ∧ 1 ≤ n ∧ n ≤ g ∧ Q .non H
open ML SR in
def spFloors : Sp := fun vs H Q _ => ∃ n : Int, vs = [.int n] ∧ 1 ≤ n ∧ n ≤ 60 ∧ ∀ (r : Addr) (H' : Hp) (fs : List Int), Same H H' → H r = none → H' r = some (.lst (fs.map V.int)) → Flr n fs → at' fs 0 = 1 → (fs.length = 1 ∨ (2 : Int) ^ (fs.length - 2) < n) → Q (.ref r) H'
def spOneMore : Sp := fun vs H Q _ => ∃ (a : Addr) (fs : List Int), vs = [.ref a] ∧ H a = some (.lst (fs.map V.int)) ∧ fs.length ≤ 100 ∧ ∀ (r : Addr) (H' : Hp), Same H H' → H r = none → H' r = some (.lst ((1 :: fs).map V.int)) → Q (.ref r) H'
section
variable {P : Program} {w : World} {K : PySem.W.Frag} {mg : Str → Option Value} {base : Heap}
theorem ok_beyond {k : Nat} (B : Bts mg) (D_refuse_beyond : Def K mg "refuse_beyond" ["number", "greatest"] s_refuse_beyond) : Cal P w K mg base (k + 1) "refuse_beyond" ["number", "greatest"] spBeyond := by
  refine D_refuse_beyond.cal sc_refuse_beyond (fun vs H Q E h => ?_) (fun f cdv A outer s H vs Q E hr h => ?_)
  · obtain ⟨n, g, rfl, _⟩ := h
    rfl
  obtain ⟨n, g, rfl, h1, h2, q⟩ := h
  refine ⟨_, (pss_one (ps_if (PW.pt (pw_or (pt_cmpR op_lt (pv 0) pe_int (nomark _)) (pw_or1 (pt_cmpR op_gt (pv 0) (pv 1) (nomark _))))) (pss_one (ps_never)) pss_nil)), ?_⟩
  refine ⟨_, rfl, _, _, rfl, rfl, _, rfl, ite2 (fun c => absurd (of_decide_eq_true c) (by omega)) (fun _ => ?_)⟩
  exact ⟨_, rfl, _, rfl, _, _, rfl, rfl, _, rfl, ite2 (fun c => absurd (of_decide_eq_true c) (by omega)) (fun _ => q)⟩
open ML SR in
theorem pow_len {n : Int} {k : Nat} (h : (2 : Int) ^ k < n) (hn : n ≤ 60) : k ≤ 5 := by
  by_cases c : k ≤ 5
  · exact c
  · exfalso
    have z : (2 : Nat) ^ 6 ≤ 2 ^ k := Nat.pow_le_pow_right (by decide) (by omega)
    have z' : ((2 ^ 6 : Nat) : Int) ≤ ((2 ^ k : Nat) : Int) := by exact_mod_cast z
    have e : ((2 ^ k : Nat) : Int) = (2 : Int) ^ k := by simp
    rw [e] at z'
    have : ((2 ^ 6 : Nat) : Int) = 64 := by decide
    omega
open ML SR in
theorem ok_floors {k : Nat} (B : Bts mg) (D_fewest_floors : Def K mg "fewest_floors" ["number"] s_fewest_floors) : Cal P w K mg base (k + 1) "fewest_floors" ["number"] spFloors := by
  refine D_fewest_floors.cal sc_fewest_floors (fun vs H Q E h => ?_) (fun f cdv A outer s H vs Q E hr h => ?_)
  · obtain ⟨n, rfl, _⟩ := h
    rfl
  obtain ⟨n, rfl, h1, h2, q⟩ := h
  refine ⟨_, (pss_cons (ps_set (i := 1) sc_fewest_floors.nd rfl (Or.inl rfl) (pe_lst (pa_cons (pv 0) pa_nil star_Name)))
      (pss_cons (ps_while PassesOwn.never (pt_cmpR op_gt (pe_ix ix_list (pv 1) pe_int (fun _ _ => rfl)) pe_int (nomark _)) (pss_one (ps_set (i := 1) sc_fewest_floors.nd rfl (Or.inl rfl) (pe_op op_cat (pe_lst (pa_cons (pe_op op_fdiv (pe_op op_add (pe_ix ix_list (pv 1) pe_int (fun _ _ => rfl)) pe_int) pe_int) pa_nil star_BinOp)) (pv 1)))))
      (pss_one (ps_ret (pv 1))))), ?_⟩
  refine ⟨_, rfl, smalls, fun p hp => ?_⟩
  refine ⟨fun m σ H' => ∃ (r : Addr) (fs : List Int), σ = [some (.int n), some (.ref r)] ∧ Same H H' ∧ H r = none ∧ H' r = some (.lst (fs.map V.int)) ∧ Flr n fs ∧ at' fs 0 = (m : Int) ∧ 1 ≤ m ∧ (fs.length = 1 ∨ (2 : Int) ^ (fs.length - 2) < n),
    ⟨n.toNat, p, [n], rfl, same_new hp _, hp, upd_same, Flr.one n, by show n = _; omega, by omega, .inl rfl⟩, ?_⟩
  rintro m σ H' ⟨r, fs, rfl, g1, hr1, e1, hF, hm, hm1, hl⟩
  have hpos := hF.1
  have h60 : fs.length ≤ 60 := by
    rcases hl with hl | hl
    · omega
    · have := pow_len hl h2
      omega
  have at0 : atI (fs.map V.int) 0 = some (.int (at' fs 0)) := nat_at (ns := fs) (k := 0) (by omega)
  refine ⟨_, rfl, r, _, _, _, rfl, rfl, SqL.of e1, at0, _, _, rfl, rfl, _, rfl, ite2 (fun c => ?_) (fun c => ?_)⟩
  · have c' : (1 : Int) < at' fs 0 := of_decide_eq_true c
    refine ⟨fun σ' H'' => ∃ m', m' < m ∧ ∃ (r : Addr) (fs : List Int), σ' = [some (.int n), some (.ref r)] ∧ Same H H'' ∧ H r = none ∧ H'' r = some (.lst (fs.map V.int)) ∧ Flr n fs ∧ at' fs 0 = (m' : Int) ∧ 1 ≤ m' ∧ (fs.length = 1 ∨ (2 : Int) ^ (fs.length - 2) < n), fun _ _ z => z, ?_⟩
    refine ⟨_, rfl, r, _, _, _, rfl, rfl, SqL.of e1, at0, _, _, rfl, rfl, _, _, rfl, rfl, ⟨by decide, by decide⟩, smalls, fun p1 hp1 => ?_⟩
    have n1 := same_new hp1 (.lst [.int ((at' fs 0 + 1) / 2)])
    refine ⟨_, rfl, p1, r, _, _, rfl, rfl, upd_same, n1 _ _ e1, by rw [List.length_map, List.length_singleton]; exact small (by omega), fun p2 hp2 => ?_⟩
    refine ⟨(m + 1) / 2, by omega, p2, (at' fs 0 + 1) / 2 :: fs, rfl, g1.trans (n1.trans (same_new hp2 _)), (g1.trans n1).free hp2, by rw [upd_same]; rfl, hF.half, by show (at' fs 0 + 1) / 2 = _; rw [hm]; omega, by omega, .inr ?_⟩
    rw [List.length_cons, show fs.length + 1 - 2 = fs.length - 1 by omega]
    exact hF.big c'
  · have c' : ¬ (1 : Int) < at' fs 0 := of_decide_eq_false (Bool.eq_false_iff.mpr c)
    exact ⟨_, rfl, q r H' fs g1 hr1 e1 hF (by omega) hl⟩
theorem ok_onemore {k : Nat} (B : Bts mg) (D_one_step_more : Def K mg "one_step_more" ["floors"] s_one_step_more) : Cal P w K mg base (k + 1) "one_step_more" ["floors"] spOneMore := by
  refine D_one_step_more.cal sc_one_step_more (fun vs H Q E h => ?_) (fun f cdv A outer s H vs Q E hr h => ?_)
  · obtain ⟨a, fs, rfl, _⟩ := h
    rfl
  obtain ⟨a, fs, rfl, ha, hl, q⟩ := h
  refine ⟨_, (pss_one (ps_ret (pe_op op_cat (pe_lst (pa_cons pe_int pa_nil star_Constant)) (pv 0)))), ?_⟩
  refine ⟨smalls, fun p1 hp1 => ?_⟩
  have n1 := same_new hp1 (.lst [.int 1])
  refine ⟨_, rfl, p1, a, _, _, rfl, rfl, upd_same, n1 _ _ ha, by rw [List.length_map, List.length_singleton]; exact small (by omega), fun p2 hp2 => ?_⟩
  exact q p2 _ (n1.trans (same_new hp2 _)) (n1.free hp2) (by rw [upd_same]; rfl)
end

/-! ### next_numbers -/
open ML SR in
def spNextNum (K : PySem.W.Frag) : Sp := fun vs H Q _ => ∃ (a f : Addr) (cs fs : List Int) (n : Int), vs = [.ref a, .ref f] ∧ SqL K H a (cs.map V.int) ∧ SqL K H f (fs.map V.int) ∧ cs.length < fs.length ∧ fs.length ≤ 60 ∧ Up cs ∧ Flr n fs ∧ n ≤ 60 ∧
  ∀ (r : Addr) (H' : Hp), Same H H' → H r = none → H' r = some (.lst ((nx n (fs.length - cs.length) cs).map V.int)) → Q (.ref r) H'
section
variable {P : Program} {w : World} {K : PySem.W.Frag} {mg : Str → Option Value} {base : Heap}
open ML SR in
theorem ok_nextnum {k : Nat} (B : Bts mg) (B2 : Bts2 mg) (h_set : mg "set" = none) (D_next_numbers : Def K mg "next_numbers" ["begun", "floors"] s_next_numbers) : Cal P w K mg base (k + 1) "next_numbers" ["begun", "floors"] (spNextNum K) := by
  refine D_next_numbers.cal sc_next_numbers (fun vs H Q E h => ?_) (fun f cdv A outer s H vs Q E hr h => ?_)
  · obtain ⟨a, f, cs, fs, n, rfl, _⟩ := h
    rfl
  obtain ⟨a, f, cs, fs, n, rfl, hS, hF, hlt, h60, hu, hfl, hn, q⟩ := h
  have hpos := hu.pos
  have hend := hu.endpos
  have hlc : (((cs.map V.int).length : Nat) : Int) = (cs.length : Int) := by rw [List.length_map]
  have hlf : (((fs.map V.int).length : Nat) : Int) = (fs.length : Int) := by rw [List.length_map]
  refine ⟨_, (pss_cons (ps_set (i := 2) sc_next_numbers.nd rfl (Or.inr rfl) (pe_ix ix_list (pv 1) (pe_op op_sub (pe_callB (he := star_Name) call_len_seq rfl B.len bt_len (pa_cons (pv 1) pa_nil star_Name)) pe_int) (fun _ _ => rfl)))
      (pss_cons (ps_set (i := 3) sc_next_numbers.nd rfl (Or.inr rfl) (pe_callB (call_max2 rfl) rfl B.max bt_max (pa_cons (pe_op op_add (pe_ix ix_list (pv 0) (pe_op op_sub (pe_callB (he := star_Name) call_len_seq rfl B.len bt_len (pa_cons (pv 0) pa_nil star_Name)) pe_int) (fun _ _ => rfl)) pe_int) (pa_cons (pe_ix ix_list (pv 1) (pe_callB (he := star_Name) call_len_seq rfl B.len bt_len (pa_cons (pv 0) pa_nil star_Name)) (fun _ _ => rfl)) pa_nil star_Subscript) star_BinOp)))
      (pss_cons (ps_set (i := 4) sc_next_numbers.nd rfl (Or.inl rfl) (pe_lst pa_nil))
      (pss_cons (ps_for PassesOwn.never rfl (pi_list (pv 0)) (pg_name (i := 5) sc_next_numbers.nd rfl (Or.inr rfl)) (pss_one (ps_expr (pe_bm PySem.F.plainAttrs_list PySem.F.slot_list_extend PySem.F.type_list_extend mt_extend (pv 4) (pa_cons (pe_comp (js := [3, 5, 2]) (L := ["lowest", "one", "end"]) rfl (pi_list (pv 0)) (comp_ok (sc := defScope s_next_numbers) rfl ⟨⟨rfl, rfl, rfl⟩, ⟨⟨rfl, rfl, rfl⟩, ⟨⟨rfl, rfl, rfl⟩, trivial⟩⟩⟩) (fun _ => pifs_one (pt_chain op_le op_le (pv 1) (pe_op op_add (pv 2) (pv 0)) (pv 3))) (fun _ => (pe_op op_add (pv 2) (pv 0)))) pa_nil star_ListComp)))))
      (pss_one (ps_ret (pe_sortset rfl rfl B2.sorted rfl h_set (pv 4)))))))), ?_⟩
  refine ⟨_, rfl, _, rfl, f, _, rfl, .inl hF, _, _, rfl, rfl, f, _, _, _, rfl, rfl, hF, (show atI (fs.map V.int) (((fs.map V.int).length : Nat) - 1) = some (.int n) by rw [hlf, show (fs.length : Int) - 1 = ((fs.length - 1 : Nat) : Int) by omega, ← hfl.last]; exact nat_at (by omega)), ?_⟩
  refine ⟨_, rfl, _, rfl, a, _, rfl, .inl hS, _, _, rfl, rfl, a, _, _, _, rfl, rfl, hS, (show atI (cs.map V.int) (((cs.map V.int).length : Nat) - 1) = some (.int (end' cs)) by rw [hlc, show (cs.length : Int) - 1 = ((cs.length - 1 : Nat) : Int) by omega]; exact nat_at (by omega)), _, _, rfl, rfl, ?_⟩
  refine ⟨_, rfl, _, rfl, a, _, rfl, .inl hS, f, _, _, _, rfl, rfl, hF, (show atI (fs.map V.int) ((cs.map V.int).length : Nat) = some (.int (at' fs cs.length)) by rw [hlc]; exact nat_at (by omega)), _, _, rfl, ?_⟩
  obtain ⟨lo, hlo, elo⟩ : ∃ lo : Int, (if at' fs cs.length > end' cs + 1 then at' fs cs.length else end' cs + 1) = lo ∧ ∀ t : Int, lo ≤ t ↔ end' cs < t ∧ n ≤ t * 2 ^ (fs.length - cs.length - 1) := by
    refine ⟨_, rfl, fun t => ?_⟩
    have z := hfl.2 cs.length hlt t
    rw [show fs.length - 1 - cs.length = fs.length - cs.length - 1 by omega] at z
    rw [← z]
    split <;> omega
  rw [hlo]
  have lo1 : 1 < lo := by
    have := ((elo lo).mp (Int.le_refl _)).1
    omega
  refine ⟨smalls, fun p hp => ?_⟩
  have n0 := same_new hp (.lst [])
  refine ⟨_, rfl, a, rfl, ⟨_, n0.seq hS⟩, ?_⟩
  refine for_list (xs := cs.map V.int) (fun i σ H2 => ∃ (ss : List Int) (o5 : Option V), σ = [some (.ref a), some (.ref f), some (.int n), some (.int lo), some (.ref p), o5] ∧ Same H H2 ∧ H2 p = some (.lst (ss.map V.int)) ∧ ss.length ≤ i * 60 ∧
      ∀ x, x ∈ ss ↔ lo ≤ x ∧ x ≤ n ∧ ∃ r, r < i ∧ ∃ b ∈ cs, at' cs r + b = x) ⟨[], none, rfl, n0, upd_same, Nat.zero_le _, fun x => ⟨fun z => by simp at z, fun ⟨_, _, r, hr', _⟩ => absurd hr' (Nat.not_lt_zero _)⟩⟩ (fun i σ H2 _ ⟨ss, o5, _, g, _⟩ => g.seq hS) ?_ ?_
  · rintro i x σ H2 hx ⟨ss, o5, rfl, g, hp2, hl2, hm2⟩
    obtain ⟨hi, rfl⟩ := int_elem hx
    have ei : cs[i] = at' cs i := by
      unfold at'
      rw [List.getD_eq_getElem?_getD, List.getElem?_eq_getElem hi]
      rfl
    rw [ei]
    refine ⟨_, rfl, .inl ⟨rfl, _, SqL.of hp2⟩, _, rfl, a, rfl, ⟨_, g.seq hS⟩, fun pl hpl => ?_⟩
    refine comp_list (xs := cs.map V.int) pl (fun j ys H3 => Same H2 H3 ∧ H3 pl = some (.lst ys) ∧ ∃ zs : List Int, ys = zs.map V.int ∧ zs.length ≤ j ∧ ∀ x, x ∈ zs ↔ lo ≤ x ∧ x ≤ n ∧ ∃ r, r < j ∧ at' cs i + at' cs r = x)
      ⟨same_new hpl _, upd_same, [], rfl, Nat.zero_le _, fun x => ⟨fun z => by simp at z, fun ⟨_, _, r, hr', _⟩ => absurd hr' (Nat.not_lt_zero _)⟩⟩ (fun j ys H3 _ ⟨h1, h2, _⟩ => ⟨(g.trans h1).seq hS, h2⟩) ?_ ?_
    · rintro j y ys H3 hy ⟨h1, h2, zs, rfl, hzl, hzm⟩
      obtain ⟨hj, rfl⟩ := int_elem hy
      have ej : cs[j] = at' cs j := by
        unfold at'
        rw [List.getD_eq_getElem?_getD, List.getElem?_eq_getElem hj]
        rfl
      rw [ej]
      have stay : ¬ (lo ≤ at' cs i + at' cs j ∧ at' cs i + at' cs j ≤ n) → ∀ x, x ∈ zs ↔ lo ≤ x ∧ x ≤ n ∧ ∃ r, r < j + 1 ∧ at' cs i + at' cs r = x := fun hno x => by
        rw [hzm x]
        constructor
        · rintro ⟨z1, z2, r, hr', e⟩
          exact ⟨z1, z2, r, by omega, e⟩
        · rintro ⟨z1, z2, r, hr', e⟩
          by_cases er : r = j
          · subst er
            rw [← e] at z1 z2
            exact absurd ⟨z1, z2⟩ hno
          · exact ⟨z1, z2, r, by omega, e⟩
      refine ⟨_, rfl, _, rfl, _, rfl, _, _, rfl, rfl, _, _, rfl, rfl, _, rfl, ?_⟩
      refine ite2 (fun c => ?_) (fun c => ?_)
      · have c1 : lo ≤ at' cs i + at' cs j := of_decide_eq_true c
        refine ⟨_, rfl, _, _, rfl, rfl, _, rfl, ite2 (fun c => ?_) (fun c => ?_)⟩
        · have c2 : at' cs i + at' cs j ≤ n := of_decide_eq_true c
          refine ⟨_, rfl, _, rfl, _, _, rfl, rfl, h2, by rw [List.length_map]; exact smallT (by omega), h1.upd hpl, upd_same, zs ++ [at' cs i + at' cs j], by rw [List.map_append]; rfl, by rw [List.length_append, List.length_singleton]; omega, fun x => ?_⟩
          rw [List.mem_append, List.mem_singleton, hzm x]
          constructor
          · rintro (⟨z1, z2, r, hr', e⟩ | e)
            · exact ⟨z1, z2, r, by omega, e⟩
            · subst e
              exact ⟨c1, c2, j, by omega, rfl⟩
          · rintro ⟨z1, z2, r, hr', e⟩
            by_cases er : r = j
            · subst er
              exact .inr e.symm
            · exact .inl ⟨z1, z2, r, by omega, e⟩
        · have c2 : ¬ at' cs i + at' cs j ≤ n := of_decide_eq_false (Bool.eq_false_iff.mpr c)
          exact ⟨h1, h2, zs, rfl, by omega, stay fun z => c2 z.2⟩
      · have c1 : ¬ lo ≤ at' cs i + at' cs j := of_decide_eq_false (Bool.eq_false_iff.mpr c)
        exact ⟨_, rfl, iteF ⟨h1, h2, zs, rfl, by omega, stay fun z => c1 z.1⟩⟩
    · rintro ys H3 ⟨h1, h2, zs, rfl, hzl, hzm⟩
      rw [List.length_map] at hzl hzm
      have sl : 4000 ≤ sizeLine := by decide
      refine ⟨p, pl, _, _, rfl, rfl, h1 _ _ hp2, h2, ?_, ss ++ zs, _, rfl, (g.trans h1).upd hp, ?_, ?_, fun x => ?_⟩
      · rw [List.length_map, List.length_map]
        omega
      · rw [upd_same, List.map_append]
      · rw [List.length_append]
        omega
      · rw [List.mem_append, hm2 x, hzm x]
        constructor
        · rintro (⟨z1, z2, r, hr', b, hb, e⟩ | ⟨z1, z2, r, hr', e⟩)
          · exact ⟨z1, z2, r, by omega, b, hb, e⟩
          · exact ⟨z1, z2, i, by omega, at' cs r, at_mem hr', e⟩
        · rintro ⟨z1, z2, r, hr', b, hb, e⟩
          by_cases er : r = i
          · subst er
            obtain ⟨r2, hr2, e2⟩ := mem_at hb
            exact .inr ⟨z1, z2, r2, hr2, by rw [e2]; exact e⟩
          · exact .inl ⟨z1, z2, r, by omega, b, hb, e⟩
  · rintro σ H2 ⟨ss, o5, rfl, g, hp2, hl2, hm2⟩
    rw [List.length_map] at hl2 hm2
    refine ⟨_, rfl, p, ss, rfl, SqL.of hp2, by omega, fun v hv => ?_, fun l ms hl hrise hmem => ?_⟩
    · obtain ⟨z1, z2, _⟩ := (hm2 v).mp hv
      omega
    · have e : ms = nx n (fs.length - cs.length) cs := by
        refine asc_eq hrise (nx_asc _ _ _) fun x => ?_
        rw [hmem x, hm2 x, mem_nx (by omega), elo x]
        constructor
        · rintro ⟨⟨z1, z3⟩, z2, r, hr', b, hb, e⟩
          exact ⟨⟨z1, z2, at' cs r, at_mem hr', b, hb, e⟩, z3⟩
        · rintro ⟨⟨z1, z2, a', ha', b, hb, e⟩, z3⟩
          obtain ⟨r, hr', er⟩ := mem_at ha'
          exact ⟨⟨z1, z3⟩, z2, r, hr', b, hb, by rw [er]; exact e⟩
      subst e
      exact q l _ (g.trans (same_new hl _)) (g.free hl) upd_same
end

/-! ### first_from -/
open ML SR in
/-- ts comes behind cs to the end n -/
def Comes (n : Int) (cs : List Int) (k : Nat) (ts : List Int) : Prop := ts.length = k ∧ Ext cs ts ∧ end' (cs ++ ts) = n
open ML SR in
def spFirst (m : Nat) : Sp := fun vs H Q _ => ∃ (a f : Addr) (cs fs : List Int) (n : Int) (k : Nat), vs = [.ref a, .ref f] ∧ H a = some (.lst (cs.map V.int)) ∧ H f = some (.lst (fs.map V.int)) ∧ fs.length = cs.length + k ∧ k < m ∧ fs.length ≤ 60 ∧ Up cs ∧ Flr n fs ∧ n ≤ 60 ∧ end' cs ≤ n ∧ n ≤ end' cs * 2 ^ k ∧
  (∀ (r : Addr) (H' : Hp) (ts : List Int), Same H H' → (r = a ∨ H r = none) → H' r = some (.lst ((cs ++ ts).map V.int)) → Comes n cs k ts → Q (.ref r) H') ∧ ((∀ ts, ¬ Comes n cs k ts) → ∀ H', Same H H' → Q .non H')
section
variable {P : Program} {w : World} {K : PySem.W.Frag} {mg : Str → Option Value} {base : Heap}
open ML SR in
theorem ok_first {c : Nat} (B : Bts mg) (D_first_from : Def K mg "first_from" ["begun", "floors"] s_first_from) (C0 : Cal P w K mg base c "next_numbers" ["begun", "floors"] (spNextNum K)) : ∀ m : Nat, Cal P w K mg base (c + m + 1) "first_from" ["begun", "floors"] (spFirst m)
  | 0 => by
    obtain ⟨f, fd, F, b, mm⟩ := D_first_from.ex
    have no : ∀ vs H Q E, ¬ spFirst 0 vs H Q E := fun vs H Q E h => by
      obtain ⟨a, f, cs, fs, n, k, _, _, _, _, h2, _⟩ := h
      omega
    exact ⟨f, fd, ⟨fun vs H Q E h => absurd h (no vs H Q E), fun A outer s H args us vs Q E _ _ _ _ h => absurd h (no vs H Q E)⟩, b, F.kp, mm⟩
  | m + 1 => by
    have C_first_from := ok_first B D_first_from C0 m
    have C_next_numbers : Cal P w K mg base (c + m + 1) "next_numbers" ["begun", "floors"] (spNextNum K) := C0.mono (by omega)
    refine D_first_from.cal sc_first_from (fun vs H Q E h => ?_) (fun f cdv A outer s H vs Q E hr h => ?_)
    · obtain ⟨a, f, cs, fs, n, k, rfl, _⟩ := h
      rfl
    obtain ⟨a, f, cs, fs, n, k, rfl, ha, hf, hk, hkm, h60, hu, hfl, hn, hle, hge, q1, q2⟩ := h
    have hpos := hu.pos
    refine ⟨_, (pss_cons (ps_if (pt_cmpR op_eq (pe_callB (he := star_Name) call_len_seq rfl B.len bt_len (pa_cons (pv 0) pa_nil star_Name)) (pe_callB (he := star_Name) call_len_seq rfl B.len bt_len (pa_cons (pv 1) pa_nil star_Name)) (nomark _)) (pss_one (ps_ret (pv 0))) pss_nil)
      (pss_cons (ps_for PassesOwn.never rfl (pi_list (pe_callC (he := star_Name) C_next_numbers hr rfl (pa_cons (pv 0) (pa_cons (pv 1) pa_nil star_Name) star_Name))) (pg_name (i := 2) sc_first_from.nd rfl (Or.inl rfl)) (pss_cons (ps_set (i := 3) sc_first_from.nd rfl (Or.inl rfl) (pe_callC (he := star_BinOp) C_first_from hr rfl (pa_cons (pe_op op_cat (pv 0) (pe_lst (pa_cons (pv 2) pa_nil star_Name))) (pa_cons (pv 1) pa_nil star_Name) star_BinOp)))
      (pss_one (ps_if (pt_cmpR op_notN (pv 3) pe_non (nomark _)) (pss_one (ps_ret (pv 3))) pss_nil))))
      (pss_one (ps_ret pe_non)))), ?_⟩
    refine ⟨_, rfl, a, _, rfl, .inl (SqL.of ha), _, rfl, f, _, rfl, .inl (SqL.of hf), rfl, _, rfl, ?_⟩
    rw [List.length_map, List.length_map, dec_ii]
    refine ite2 (fun c => ?_) (fun c => ?_)
    · have c' : (cs.length : Int) = (fs.length : Int) := of_decide_eq_true c
      have hk0 : k = 0 := by omega
      subst hk0
      rw [Int.pow_zero, Int.mul_one] at hge
      refine ⟨_, rfl, q1 a H [] (Same.refl _) (.inl rfl) (by rw [List.append_nil]; exact ha) ⟨rfl, trivial, by rw [List.append_nil]; omega⟩⟩
    · have c' : ¬ (cs.length : Int) = (fs.length : Int) := of_decide_eq_false (Bool.eq_false_iff.mpr c)
      obtain ⟨j, rfl⟩ : ∃ j, k = j + 1 := ⟨k - 1, by omega⟩
      have ek : fs.length - cs.length = j + 1 := by omega
      refine ⟨_, rfl, _, rfl, a, f, cs, fs, n, rfl, SqL.of ha, SqL.of hf, by omega, h60, hu, hfl, hn, fun rt H1 g1 hrt et => ?_⟩
      rw [ek] at et
      have h0 := hu.endpos
      refine ⟨rt, rfl, ⟨_, SqL.of et⟩, ?_⟩
      refine for_list (xs := (nx n (j + 1) cs).map V.int) (fun i σ H2 => ∃ o2 o3 : Option V, σ = [some (.ref a), some (.ref f), o2, o3] ∧ Same H1 H2 ∧ ∀ p, p < i → ∀ t, (nx n (j + 1) cs)[p]? = some t → ∀ ts, ¬ Comes n (cs ++ [t]) j ts)
        ⟨none, none, rfl, Same.refl _, fun p hp => absurd hp (Nat.not_lt_zero _)⟩ (fun i σ H2 _ ⟨o2, o3, _, g, _⟩ => SqL.of (g _ _ et)) ?_ ?_
      · rintro i x σ H2 hx ⟨o2, o3, rfl, g2, hf2⟩
        obtain ⟨hi, rfl⟩ := int_elem hx
        obtain ⟨⟨z1, z2, z3⟩, z4⟩ := (mem_nx (by omega)).mp (List.getElem_mem hi)
        rw [Nat.add_sub_cancel] at z4
        have hti : (nx n (j + 1) cs)[i]? = some (nx n (j + 1) cs)[i] := List.getElem?_eq_getElem hi
        generalize (nx n (j + 1) cs)[i] = t at z1 z2 z3 z4 hti ⊢
        refine ⟨_, rfl, _, rfl, smalls, fun p1 hp1 => ?_⟩
        have n1 := same_new hp1 (.lst [.int t])
        refine ⟨a, p1, _, _, rfl, rfl, n1 _ _ (g2 _ _ (g1 _ _ ha)), upd_same, by rw [List.length_map, List.length_singleton]; exact small (by omega), fun p2 hp2 => ?_⟩
        have n2 := same_new hp2 (.lst (cs.map V.int ++ [.int t]))
        have G2 := g1.trans (g2.trans (n1.trans n2))
        have hl1 : (cs ++ [t]).length = cs.length + 1 := by simp
        refine ⟨_, rfl, p2, f, cs ++ [t], fs, n, j, rfl, by rw [upd_same, List.map_append]; rfl, G2 _ _ hf, by omega, by omega, h60, hu.snoc z1, hfl, hn, by rw [end_snoc]; exact z2, by rw [end_snoc]; exact z4, fun r H3 ts g3 hr3 e3 hc => ?_, fun hno H3 g3 => ?_⟩
        · have hfree : H r = none := by
            rcases hr3 with e | e
            · rw [e]; exact (g1.trans (g2.trans n1)).free hp2
            · exact G2.free e
          refine ⟨_, rfl, rfl, _, rfl, iteT ⟨_, rfl, ?_⟩⟩
          refine q1 r H3 (t :: ts) (G2.trans g3) (.inr hfree) (by rw [e3, List.append_assoc]; rfl) ⟨by rw [List.length_cons, hc.1], ⟨z1, z3, hc.2.1⟩, by rw [end_cons]; exact hc.2.2⟩
        · refine ⟨_, rfl, rfl, _, rfl, iteF ⟨_, _, rfl, g2.trans (n1.trans (n2.trans g3)), fun p hp t' ht' ts => ?_⟩⟩
          by_cases ep : p = i
          · subst ep
            rw [hti] at ht'
            cases ht'
            exact hno ts
          · exact hf2 p (by omega) t' ht' ts
      · rintro σ H2 ⟨o2, o3, rfl, g2, hf2⟩
        rw [List.length_map] at hf2
        refine q2 (fun ts hc => ?_) H2 (g1.trans g2)
        obtain ⟨y1, y2, y3⟩ := hc
        cases ts with
        | nil => simp at y1
        | cons t ts =>
          have hl : ts.length = j := by simpa using y1
          have hm := nx_of_ext hu y2 y3
          rw [hl] at hm
          obtain ⟨p, hp, ep⟩ := List.mem_iff_getElem.mp hm
          exact hf2 p hp t (by rw [List.getElem?_eq_getElem hp, ep]) ts ⟨hl, y2.2.2, by rw [← end_cons]; exact y3⟩
end

/-! ### shortest, least -/
section
variable {P : Program} {w : World} {K : PySem.W.Frag} {mg : Str → Option Value} {base : Heap}
open ML SR in
theorem comes_has {n : Int} {k : Nat} {ts : List Int} (h : Comes n [1] k ts) : Has n k := has_ext.mpr ⟨ts, h⟩
open ML SR in
theorem low_none {n : Int} {fs : List Int} (hl : fs.length = 1 ∨ (2 : Int) ^ (fs.length - 2) < n) : ∀ i, i < fs.length - 1 → ¬ Has n i := fun i hi h => by
  rcases hl with hl | hl
  · omega
  · have hu := h.up
    have z : (2 : Nat) ^ i ≤ 2 ^ (fs.length - 2) := Nat.pow_le_pow_right (by decide) (by omega)
    have z' : (2 : Int) ^ i ≤ 2 ^ (fs.length - 2) := by exact_mod_cast z
    omega
open ML SR in
/-- between two turns: the floors of j steps, and what was found by them -/
def ShState (n : Int) (k0 : Nat) (H : Hp) (j : Nat) (H' : Hp) (rf : Addr) (fs : List Int) (fv : V) : Prop := Same H H' ∧ H' rf = some (.lst (fs.map V.int)) ∧ Flr n fs ∧ at' fs 0 = 1 ∧ fs.length = j + 1 ∧ j ≤ k0 ∧ (∀ i, i < j → ¬ Has n i) ∧
  ((fv = .non ∧ ¬ Has n j) ∨ ∃ (r : Addr) (ts : List Int), fv = .ref r ∧ H r = none ∧ H' r = some (.lst (([1] ++ ts).map V.int)) ∧ Comes n [1] j ts)
open ML SR in
theorem ok_shortest {k : Nat} (B : Bts mg) (D_shortest : Def K mg "shortest" ["number"] s_shortest) (C_refuse_beyond : Cal P w K mg base k "refuse_beyond" ["number", "greatest"] spBeyond) (C_fewest_floors : Cal P w K mg base k "fewest_floors" ["number"] spFloors) (C_one_step_more : Cal P w K mg base k "one_step_more" ["floors"] spOneMore) (C_first_from : Cal P w K mg base k "first_from" ["begun", "floors"] (spFirst 13)) : Cal P w K mg base (k + 1) "shortest" ["number"] spShortest := by
  refine D_shortest.cal sc_shortest (fun vs H Q E h => ?_) (fun f cdv A outer s H vs Q E hr h => ?_)
  · obtain ⟨n, rfl, _⟩ := h
    rfl
  obtain ⟨n, rfl, h1, h2, q⟩ := h
  obtain ⟨k0, hk0, hL⟩ := small_least h1 h2
  have e1 : end' [1] = 1 := rfl
  obtain ⟨t3, T3, R3⟩ : ∃ t, PSs (cxOf CX0 P w K mg base N_shortest "shortest" (defScope s_shortest) f cdv A outer s H E).nox ((defBody s_shortest).drop 3) t ∧ ∀ (j : Nat) (H' : Hp) (rf : Addr) (fs : List Int) (fv : V), ShState n k0 H j H' rf fs fv → t { nx := fun _ H' => Q .non H', rt := Q } [some (.int n), some (.ref rf), some fv] H' := by
    refine ⟨_, (pss_cons (ps_while PassesOwn.never (pt_cmpR op_isN (pv 2) pe_non (nomark _)) (pss_cons (ps_set (i := 1) sc_shortest.nd rfl (Or.inl rfl) (pe_callC (he := star_Name) C_one_step_more hr rfl (pa_cons (pv 1) pa_nil star_Name)))
      (pss_one (ps_set (i := 2) sc_shortest.nd rfl (Or.inl rfl) (pe_callC (he := star_List) C_first_from hr rfl (pa_cons (pe_lst (pa_cons pe_int pa_nil star_Constant)) (pa_cons (pv 1) pa_nil star_Name) star_List))))))
      (pss_one (ps_ret (pv 2)))), fun j H' rf fs fv st => ?_⟩
    refine ⟨fun m σ H' => ∃ (j : Nat) (rf : Addr) (fs : List Int) (fv : V), σ = [some (.int n), some (.ref rf), some fv] ∧ m = k0 - j ∧ ShState n k0 H j H' rf fs fv, ⟨k0 - j, j, rf, fs, fv, rfl, rfl, st⟩, ?_⟩
    rintro m σ H1 ⟨j, rf, fs, fv, rfl, rfl, g, ef, hfl, hf0, hfj, hjk, hlow, hfv⟩
    rcases hfv with ⟨rfl, hno⟩ | ⟨r, ts, rfl, hr0, er, hc⟩
    · have hlt : j < k0 := by
        rcases Nat.lt_or_ge j k0 with z | z
        · exact z
        · have : j = k0 := by omega
          rw [this] at hno
          exact absurd hL.1 hno
      refine ⟨_, rfl, rfl, _, rfl, iteT ?_⟩
      refine ⟨fun σ' H'' => ∃ m', m' < k0 - j ∧ ∃ (j : Nat) (rf : Addr) (fs : List Int) (fv : V), σ' = [some (.int n), some (.ref rf), some fv] ∧ m' = k0 - j ∧ ShState n k0 H j H'' rf fs fv, fun _ _ z => z, ?_⟩
      refine ⟨_, rfl, rf, fs, rfl, ef, by omega, fun rf2 H2 g2 hrf2 ef2 => ?_⟩
      refine ⟨smalls, fun p1 hp1 => ?_⟩
      have n1 := same_new hp1 (.lst [.int 1])
      have G1 := (g.trans g2).trans n1
      have hl2 : (1 :: fs).length = j + 2 := by rw [List.length_cons]; omega
      have hF2 := hfl.more hf0
      have low2 : ∀ i, i < j + 1 → ¬ Has n i := fun i hi => by
        by_cases e : i = j
        · rw [e]; exact hno
        · exact hlow i (by omega)
      refine ⟨_, rfl, p1, rf2, [1], 1 :: fs, n, j + 1, rfl, upd_same, n1 _ _ ef2, by rw [hl2, List.length_singleton]; omega, by omega, by omega, Up.one, hF2, h2, by rw [e1]; exact h1, ?_, fun r H3 ts g3 hr3 e3 hc => ?_, fun hno2 H3 g3 => ?_⟩
      · have := hF2.top rfl
        rw [hl2, show j + 2 - 1 = j + 1 by omega] at this
        rw [e1]
        exact this
      · have hfree : H r = none := by
          rcases hr3 with e | e
          · rw [e]; exact (g.trans g2).free hp1
          · exact G1.free e
        exact ⟨k0 - (j + 1), by omega, j + 1, rf2, 1 :: fs, .ref r, rfl, rfl, G1.trans g3, g3 _ _ (n1 _ _ ef2), hF2, rfl, hl2, hlt, low2, .inr ⟨r, ts, rfl, hfree, e3, hc⟩⟩
      · exact ⟨k0 - (j + 1), by omega, j + 1, rf2, 1 :: fs, .non, rfl, rfl, G1.trans g3, g3 _ _ (n1 _ _ ef2), hF2, rfl, hl2, hlt, low2, .inl ⟨rfl, fun z => by
          obtain ⟨ts, hts⟩ := has_ext.mp z
          exact hno2 ts hts⟩⟩
    · refine ⟨_, rfl, rfl, _, rfl, iteF ⟨_, rfl, ?_⟩⟩
      have hH := comes_has hc
      obtain ⟨M, hg⟩ := Good.ext (Good.start (M := 2) (by decide)) hc.2.1
      exact q r H1 ([1] ++ ts) M j g hr0 hg hc.2.2 (by rw [List.length_append, List.length_singleton, hc.1]; omega) ⟨hH, hlow⟩ er
  refine ⟨_, (pss_cons (ps_expr (pe_callC (he := star_Name) C_refuse_beyond hr rfl (pa_cons (pv 0) (pa_cons pe_int pa_nil star_Constant) star_Name)))
      (pss_cons (ps_set (i := 1) sc_shortest.nd rfl (Or.inl rfl) (pe_callC (he := star_Name) C_fewest_floors hr rfl (pa_cons (pv 0) pa_nil star_Name)))
      (pss_cons (ps_set (i := 2) sc_shortest.nd rfl (Or.inl rfl) (pe_callC (he := star_List) C_first_from hr rfl (pa_cons (pe_lst (pa_cons pe_int pa_nil star_Constant)) (pa_cons (pv 1) pa_nil star_Name) star_List)))
      T3))), ?_⟩
  refine ⟨_, rfl, n, 60, rfl, h1, h2, ?_⟩
  refine ⟨_, rfl, n, rfl, h1, h2, fun rf H1 fs g1 hrf ef hfl hf0 hll => ?_⟩
  have hlow := low_none hll
  have hpos := hfl.1
  have hj0 : fs.length - 1 ≤ k0 := by
    by_cases c : fs.length - 1 ≤ k0
    · exact c
    · exact absurd hL.1 (hlow k0 (by omega))
  refine ⟨smalls, fun p1 hp1 => ?_⟩
  have n1 := same_new hp1 (.lst [.int 1])
  have G1 := g1.trans n1
  refine ⟨_, rfl, p1, rf, [1], fs, n, fs.length - 1, rfl, upd_same, n1 _ _ ef, by rw [List.length_singleton]; omega, by omega, by omega, Up.one, hfl, h2, by rw [e1]; exact h1, by rw [e1]; exact hfl.top hf0, fun r H2 ts g2 hr2 e2 hc => ?_, fun hno H2 g2 => ?_⟩
  · have hfree : H r = none := by
      rcases hr2 with e | e
      · rw [e]; exact g1.free hp1
      · exact G1.free e
    exact R3 (fs.length - 1) H2 rf fs (.ref r) ⟨G1.trans g2, g2 _ _ (n1 _ _ ef), hfl, hf0, by omega, hj0, hlow, .inr ⟨r, ts, rfl, hfree, e2, hc⟩⟩
  · exact R3 (fs.length - 1) H2 rf fs .non ⟨G1.trans g2, g2 _ _ (n1 _ _ ef), hfl, hf0, by omega, hj0, hlow, .inl ⟨rfl, fun z => by
      obtain ⟨ts, hts⟩ := has_ext.mp z
      exact hno ts hts⟩⟩
open ML SR in
theorem ok_least {k : Nat} (B : Bts mg) (D_least : Def K mg "least" ["number"] s_least) (C_shortest : Cal P w K mg base k "shortest" ["number"] spShortest) : Cal P w K mg base (k + 1) "least" ["number"] spLeast := by
  refine D_least.cal sc_least (fun vs H Q E h => ?_) (fun f cdv A outer s H vs Q E hr h => ?_)
  · obtain ⟨n, rfl, _⟩ := h
    rfl
  obtain ⟨n, rfl, h1, h2, q⟩ := h
  refine ⟨_, (pss_one (ps_ret (pe_op op_sub (pe_callB (he := star_Call) call_len_seq rfl B.len bt_len (pa_cons (pe_callC (he := star_Name) C_shortest hr rfl (pa_cons (pv 0) pa_nil star_Name)) pa_nil star_Call)) pe_int))), ?_⟩
  refine ⟨_, rfl, n, rfl, h1, h2, fun r H' cs M j g hr0 hg he hl hL er => ?_⟩
  refine ⟨r, _, rfl, .inl (SqL.of er), _, _, rfl, rfl, ?_⟩
  show Q (.int (((cs.map V.int).length : Nat) - 1)) H'
  rw [List.length_map, hl, show ((j + 1 : Nat) : Int) - 1 = (j : Int) by omega]
  exact q H' j g hL
end

/-! ### law_k09 -/
def spLaw (K : PySem.W.Frag) : Sp := fun vs H Q _ => ∃ (a : Addr) (ns : List Int), vs = [.ref a] ∧ SqL K H a (ns.map V.int) ∧ ns.length ≤ 63 ∧ ∀ H', Q (.bl true) H'
section
variable {P : Program} {w : World} {K : PySem.W.Frag} {mg : Str → Option Value} {base : Heap}
open ML SR in
theorem ok_law {k : Nat} {f : Addr} {fd : FuncData} (B : Bts mg) (F : Fun K "law" "law" s_law f fd) (C_law_cell_at : Cal P w K mg base k "_law_cell_at" ["script", "k"] (spCell K)) (C_law_least : Cal P w K mg base k "_law_least" ["number"] spLeastLaw) (C_least : Cal P w K mg base k "least" ["number"] spLeast) (C_shortest : Cal P w K mg base k "shortest" ["number"] spShortest) (C_law_whole : Cal P w K mg base k "_law_whole" ["found"] spWhole) (C_law_numbers : Cal P w K mg base k "_law_numbers" ["found"] spNumbers) (C_law_is_chain : Cal P w K mg base k "_law_is_chain" ["chain"] (spIsChain K)) : FnOk P w K mg base CX0 (k + 1) f fd ["script"] (spLaw K) := by
  refine F.ok sc_law (fun vs H Q E h => ?_) (fun cdv A outer s H vs Q E hr h => ?_)
  · obtain ⟨a, ns, rfl, _⟩ := h
    rfl
  obtain ⟨a, ns, rfl, hS, h63, q⟩ := h
  obtain ⟨t2, T2, R2⟩ : ∃ t, PSs (cxOf CX0 P w K mg base N_law "law" (defScope s_law) f cdv A outer s H E).nox ((defBody s_law).drop 2) t ∧ ∀ (N : Int), 1 ≤ N → N ≤ 60 →
      t { nx := fun _ H' => Q .non H', rt := Q } [some (.ref a), some (.int N), none, none, none, none] H := by
    refine ⟨_, (pss_cons (ps_set (i := 2) sc_law.nd rfl (Or.inl rfl) (pe_callC (he := star_Name) C_law_least hr rfl (pa_cons (pv 1) pa_nil star_Name)))
      (pss_cons (ps_set (i := 3) sc_law.nd rfl (Or.inl rfl) (pe_callC (he := star_Name) C_least hr rfl (pa_cons (pv 1) pa_nil star_Name)))
      (pss_cons (ps_if (PW.pt (pw_or (pt_not (pt_val (pe_callC (he := star_Name) C_law_whole hr rfl (pa_cons (pv 3) pa_nil star_Name)))) (pw_or1 (pt_cmpR op_ne (pv 3) (pv 2) (nomark _))))) (pss_one (ps_ret pe_bl)) pss_nil)
      (pss_cons (ps_for PassesOwn.never rfl (pi_range1 rfl B.range (pa_cons pe_int pa_nil star_Constant)) (pg_name (i := 4) sc_law.nd rfl (Or.inl rfl)) (pss_cons (ps_set (i := 5) sc_law.nd rfl (Or.inl rfl) (pe_callC (he := star_Name) C_shortest hr rfl (pa_cons (pv 1) pa_nil star_Name)))
      (pss_cons (ps_if (PW.pt (pw_or (pt_not (pt_val (pe_callC (he := star_Name) C_law_numbers hr rfl (pa_cons (pv 5) pa_nil star_Name)))) (pw_or (pt_not (pt_val (pe_callC (he := star_Name) C_law_is_chain hr rfl (pa_cons (pv 5) pa_nil star_Name)))) (pw_or (pt_cmpR op_ne (pe_ix ix_list (pv 5) (pe_un un_neg pe_int) (fun _ _ => rfl)) (pv 1) (nomark _)) (pw_or1 (pt_cmpR op_ne (pe_callB (he := star_Name) call_len_seq rfl B.len bt_len (pa_cons (pv 5) pa_nil star_Name)) (pe_op op_add (pv 2) pe_int) (nomark _))))))) (pss_one (ps_ret pe_bl)) pss_nil)
      (pss_one (ps_expr (pe_bm PySem.F.plainAttrs_list PySem.F.slot_list_append PySem.F.type_list_append mt_append (pv 5) (pa_cons pe_int pa_nil star_Constant)))))))
      (pss_one (ps_ret pe_bl)))))), fun N h1 h2 => ?_⟩
    obtain ⟨k0, hk0, hL⟩ := small_least h1 h2
    obtain ⟨r1, r2⟩ := hL.rch
    refine ⟨_, rfl, N, k0, rfl, h2, by omega, r1, r2, fun H1 g1 => ?_⟩
    refine ⟨_, rfl, N, rfl, h1, h2, fun H2 k1 g2 hL1 => ?_⟩
    have ek := hL1.uniq hL
    subst ek
    refine ⟨_, rfl, _, rfl, _, rfl, iteF ?_⟩
    refine ⟨_, rfl, _, rfl, rfl, _, rfl, iteNS rfl ?_⟩
    refine ⟨_, rfl, (by decide), (by decide), ?_⟩
    refine for_range (fun i σ H' => ∃ (o4 o5 : Option V), σ = [some (.ref a), some (.int N), some (.int k1), some (.int k1), o4, o5] ∧ Same H2 H') ⟨_, _, rfl, Same.refl _⟩ ?_ ?_
    · rintro i σ H3 hi ⟨o4, o5, rfl, g3⟩
      refine ⟨_, rfl, N, rfl, h1, h2, fun r H4 cs M k2 g4 hr4 gd he hl hL2 e4 => ?_⟩
      have ek := hL2.uniq hL
      subst ek
      refine ⟨_, rfl, r, cs, rfl, e4, by omega, fun H5 g5 => ⟨_, rfl, iteF ?_⟩⟩
      have e5 := g5 _ _ e4
      refine ⟨_, rfl, r, cs, rfl, SqL.of e5, by omega, fun b H6 g6 hb => ?_⟩
      have eb : b = true := hb.mpr (gd.chn (by omega))
      subst eb
      have e6 := g6 _ _ e5
      refine ⟨_, rfl, iteF ?_⟩
      refine ⟨_, rfl, _, rfl, r, _, _, _, rfl, rfl, SqL.of e6, last_at (by omega), _, rfl, rfl, _, rfl, iteNS (congrArg V.int he) ?_⟩
      refine ⟨_, rfl, r, _, rfl, .inl (SqL.of e6), _, rfl, _, _, rfl, rfl, rfl, _, rfl, iteNS (by rw [List.length_map, hl]; rfl) ?_⟩
      refine ⟨_, rfl, .inl ⟨rfl, _, SqL.of e6⟩, r, _, _, rfl, rfl, e6, by rw [List.length_map]; exact smallT (by omega), ?_⟩
      exact ⟨_, _, rfl, (((g3.trans g4).trans g5).trans g6).upd (g3.free hr4)⟩
    · rintro σ H3 ⟨o4, o5, rfl, g3⟩
      exact q H3
  refine ⟨_, (pss_cons (ps_set (i := 1) sc_law.nd rfl (Or.inl rfl) (pe_op op_add pe_int (pe_op op_mod (pe_callC (he := star_Name) C_law_cell_at hr rfl (pa_cons (pv 0) (pa_cons pe_int pa_nil star_Constant) star_Name)) pe_int)))
      (pss_cons (ps_if (pt_cmpR op_eq (pe_op op_mod (pe_callC (he := star_Name) C_law_cell_at hr rfl (pa_cons (pv 0) (pa_cons pe_int pa_nil star_Constant) star_Name)) pe_int) pe_int (nomark _)) (pss_one (ps_set (i := 1) sc_law.nd rfl (Or.inl rfl) (pe_op op_add pe_int (pe_op op_mod (pe_callC (he := star_Name) C_law_cell_at hr rfl (pa_cons (pv 0) (pa_cons pe_int pa_nil star_Constant) star_Name)) pe_int)))) pss_nil)
      T2)), ?_⟩
  have c0 := Int.emod_nonneg (cell ns 0) (show (40 : Int) ≠ 0 by decide)
  have c1 := Int.emod_lt_of_pos (cell ns 0) (show (0 : Int) < 40 by decide)
  have d0 := Int.emod_nonneg (cell ns 0) (show (60 : Int) ≠ 0 by decide)
  have d1 := Int.emod_lt_of_pos (cell ns 0) (show (0 : Int) < 60 by decide)
  refine ⟨_, rfl, a, ns, 0, rfl, hS, by decide, _, _, rfl, rfl, (by show (0 : Int) < 40; decide), _, _, rfl, rfl, ?_⟩
  refine ⟨_, rfl, a, ns, 1, rfl, hS, by decide, _, _, rfl, rfl, (by show (0 : Int) < 6; decide), rfl, _, rfl, ?_⟩
  refine ite2 (fun c => ?_) (fun c => ?_)
  · refine ⟨_, rfl, a, ns, 0, rfl, hS, by decide, _, _, rfl, rfl, (by show (0 : Int) < 60; decide), _, _, rfl, rfl, ?_⟩
    exact R2 _ (by omega) (by omega)
  · exact R2 _ (by omega) (by omega)
end

theorem fin {l : PySem.W.OpenLaw} {w : World} {K : PySem.W.Frag} {h : Heap} {mg : Str → Option Value} {fa f7 : Addr} (X : K.In h) (G : h.Ns mainGlobals mg) (hfa : mg "law" = some (.ref fa))
    {od7 an7 : Option Addr} {sl7 : Array (Option Value)} {oc7 kV7 dc7 pm7 cd7 ct7 : Value}
    (a7 : PySem.W.nsIn K mainGlobals "law" = some (some (.ref f7))) (l7 : K.lookup f7 = some ⟨oc7, od7, .func (PySem.W.fnOf "law" "law" (defArgs s_law) (defBody s_law) (defScope s_law) .none kV7 dc7 pm7 an7 cd7 ct7), sl7⟩) (c7 : PySem.W.codeIn K cd7 "law" = true) (k7 : PySem.W.keepIn K (.ref f7) = true)
    (B : Bts mg) (B2 : Bts2 mg) (hSet : PySem.W.nsIn K mainGlobals "set" = some none)
    (D_shortest : Def K mg "shortest" ["number"] s_shortest) (D_least : Def K mg "least" ["number"] s_least) (D_refuse_beyond : Def K mg "refuse_beyond" ["number", "greatest"] s_refuse_beyond) (D_fewest_floors : Def K mg "fewest_floors" ["number"] s_fewest_floors) (D_one_step_more : Def K mg "one_step_more" ["floors"] s_one_step_more) (D_first_from : Def K mg "first_from" ["begun", "floors"] s_first_from) (D_next_numbers : Def K mg "next_numbers" ["begun", "floors"] s_next_numbers) (D_law_cell_at : Def K mg "_law_cell_at" ["script", "k"] s_law_cell_at) (D_law_totals : Def K mg "_law_totals" ["chain", "number", "steps"] s_law_totals) (D_law_reaches : Def K mg "_law_reaches" ["chain", "number", "steps"] s_law_reaches) (D_law_least : Def K mg "_law_least" ["number"] s_law_least) (D_law_whole : Def K mg "_law_whole" ["found"] s_law_whole) (D_law_numbers : Def K mg "_law_numbers" ["found"] s_law_numbers) (D_law_is_chain : Def K mg "_law_is_chain" ["chain"] s_law_is_chain) :
    ∃ fd : FuncData, (∀ (s : Shared) (v : Value), BindsTo s fd ⟨[v], []⟩ [("script", v)]) ∧ ∀ base : Heap, K.In base → base.Ns mainGlobals mg → FnOk l.prog w K mg base CX0 30 fa fd ["script"] (spLaw K) := by
  have e := hfa.symm.trans (PySem.W.mg_of X G a7)
  cases e
  refine ⟨PySem.W.fnOf "law" "law" (defArgs s_law) (defBody s_law) (defScope s_law) .none kV7 dc7 pm7 an7 cd7 ct7, fun s v => .of_eq rfl, fun base _ _ => ?_⟩
  have C1 := ok_cell (P := l.prog) (w := w) (base := base) (k := 4) B D_law_cell_at
  have T1 := ok_totals (P := l.prog) (w := w) (K := K) (base := base) (k := 4) B B2 D_law_totals
  have R1 := ok_reaches (c := 5) B D_law_reaches T1 20
  have LL := ok_leastlaw (k := 26) B D_law_least R1
  have N1 := ok_nextnum (P := l.prog) (w := w) (K := K) (base := base) (k := 4) B B2 (PySem.W.mg_none_of X G hSet) D_next_numbers
  have F1 := ok_first (c := 5) B D_first_from N1 13
  have S1 := ok_shortest (k := 25) B D_shortest ((ok_beyond (k := 4) B D_refuse_beyond).mono (by decide)) ((ok_floors (k := 4) B D_fewest_floors).mono (by decide)) ((ok_onemore (k := 4) B D_one_step_more).mono (by decide)) (F1.mono (by decide))
  have S2 := ok_least (k := 26) B D_least S1
  exact ok_law (k := 29) B (fun_mk (st := s_law) l7 c7 k7) (C1.mono (by decide)) (LL.mono (by decide)) (S2.mono (by decide)) (S1.mono (by decide)) ((ok_whole (k := 6) B D_law_whole).mono (by decide)) ((ok_numbers (k := 7) B D_law_numbers ((ok_whole (k := 6) B D_law_whole))).mono (by decide)) ((ok_lawischain (k := 6) B D_law_is_chain).mono (by decide))

theorem walk {l : PySem.W.OpenLaw} {q : Program} {loose : List Str} {XP : (Str → Option Value) → Heap → Prop} {YP : World → Heap → Prop} {d : DefRec} {K : Params → PySem.W.Frag} (hn : l.most = some 63) (hdf : d.params.defaults = [])
    (hY : ∀ (w : World) (h : Heap), YP w h → (K w.params).In h)
    (F : ∀ (w : World) (mg : Str → Option Value) (fa : Addr) (h : Heap), (K w.params).In h → h.Ns mainGlobals mg → mg d.name = some (.ref fa) →
      ∃ fd : FuncData, (∀ (s : Shared) (u : Value), BindsTo s fd ⟨[u], []⟩ [("script", u)]) ∧ ∀ base : Heap, (K w.params).In base → base.Ns mainGlobals mg → FnOk l.prog w (K w.params) mg base CX0 30 fa fd ["script"] (spLaw (K w.params))) :
    PySem.W.WalkO q loose XP YP l.row.toRowW d [] (fun f vs => PySem.call f vs) :=
  L2.walk_of (n := 63) (k := 30) (x := "script") (CX := fun _ => CX0) (sp := fun w => spLaw (K w.params)) hn (by decide) hdf ⟨rfl, by decide, by decide⟩ hY F (fun _ _ a ns hl _ hS => ⟨a, ns, rfl, hS, hl, fun _ => rfl⟩) fun _ _ _ _ _ z => z
end Q9
open PySem PySem.W PyProof.Rows
set_option maxRecDepth 100000 in
set_option maxHeartbeats 0 in
theorem PySem.Challenge.cw_fewsums_k09_shortest_chains_holds : PySem.Challenge.rw_fewsums_k09_shortest_chains.Holds := by
  w_on; o_law; k_head; (case hw => w_witness2)
  k_fill
  refine Q9.walk (l := PySem.Challenge.rw_fewsums_k09_shortest_chains) rfl rfl (fun w h Y => PySem.W.kIn_of Y) ?F
  case F =>
    intro w mg fa h KX G hmg
    have B : L2.Bts mg := by
      refine' L2.bts_mk KX G ?z1 ?z2 ?z3 ?z4 ?z5 ?z6 ?z7 ?z8 ?z9 ?z10 ?z11 ?z12
      (case z1 => k_is); (case z2 => k_is); (case z3 => k_is); (case z4 => k_is); (case z5 => k_is); (case z6 => k_is); (case z7 => k_is); (case z8 => k_is); (case z9 => k_is); (case z10 => k_is); (case z11 => k_is); (case z12 => k_is)
    refine' Q9.fin KX G hmg ?a ?l ?c ?k B ?b2 ?st ?D1 ?D2 ?D3 ?D4 ?D5 ?D6 ?D7 ?D8 ?D9 ?D10 ?D11 ?D12 ?D13 ?D14
    (case a => k_is); (case l => k_is); (case c => k_is); (case k => k_is)
    (case b2 => (refine' L2.bts2_mk KX G ?y1 ?y2 ?y3 ?y4 ?y5 ?y6 ?y7; (case y1 => k_is); (case y2 => k_is); (case y3 => k_is); (case y4 => k_is); (case y5 => k_is); (case y6 => k_is); (case y7 => k_is)))
    (case st => k_is)
    case D1 =>
      refine' L2.def_mk KX G (fun _ _ _ _ _ _ us hl => match us, hl with | [_], _ => rfl) ?a ?l ?c ?k
      (case a => k_is); (case l => k_is); (case c => k_is); (case k => k_is)
    case D2 =>
      refine' L2.def_mk KX G (fun _ _ _ _ _ _ us hl => match us, hl with | [_], _ => rfl) ?a ?l ?c ?k
      (case a => k_is); (case l => k_is); (case c => k_is); (case k => k_is)
    case D3 =>
      refine' L2.def_mk KX G (fun _ _ _ _ _ _ us hl => match us, hl with | [_, _], _ => rfl) ?a ?l ?c ?k
      (case a => k_is); (case l => k_is); (case c => k_is); (case k => k_is)
    case D4 =>
      refine' L2.def_mk KX G (fun _ _ _ _ _ _ us hl => match us, hl with | [_], _ => rfl) ?a ?l ?c ?k
      (case a => k_is); (case l => k_is); (case c => k_is); (case k => k_is)
    case D5 =>
      refine' L2.def_mk KX G (fun _ _ _ _ _ _ us hl => match us, hl with | [_], _ => rfl) ?a ?l ?c ?k
      (case a => k_is); (case l => k_is); (case c => k_is); (case k => k_is)
    case D6 =>
      refine' L2.def_mk KX G (fun _ _ _ _ _ _ us hl => match us, hl with | [_, _], _ => rfl) ?a ?l ?c ?k
      (case a => k_is); (case l => k_is); (case c => k_is); (case k => k_is)
    case D7 =>
      refine' L2.def_mk KX G (fun _ _ _ _ _ _ us hl => match us, hl with | [_, _], _ => rfl) ?a ?l ?c ?k
      (case a => k_is); (case l => k_is); (case c => k_is); (case k => k_is)
    case D8 =>
      refine' L2.def_mk KX G (fun _ _ _ _ _ _ us hl => match us, hl with | [_, _], _ => rfl) ?a ?l ?c ?k
      (case a => k_is); (case l => k_is); (case c => k_is); (case k => k_is)
    case D9 =>
      refine' L2.def_mk KX G (fun _ _ _ _ _ _ us hl => match us, hl with | [_, _, _], _ => rfl) ?a ?l ?c ?k
      (case a => k_is); (case l => k_is); (case c => k_is); (case k => k_is)
    case D10 =>
      refine' L2.def_mk KX G (fun _ _ _ _ _ _ us hl => match us, hl with | [_, _, _], _ => rfl) ?a ?l ?c ?k
      (case a => k_is); (case l => k_is); (case c => k_is); (case k => k_is)
    case D11 =>
      refine' L2.def_mk KX G (fun _ _ _ _ _ _ us hl => match us, hl with | [_], _ => rfl) ?a ?l ?c ?k
      (case a => k_is); (case l => k_is); (case c => k_is); (case k => k_is)
    case D12 =>
      refine' L2.def_mk KX G (fun _ _ _ _ _ _ us hl => match us, hl with | [_], _ => rfl) ?a ?l ?c ?k
      (case a => k_is); (case l => k_is); (case c => k_is); (case k => k_is)
    case D13 =>
      refine' L2.def_mk KX G (fun _ _ _ _ _ _ us hl => match us, hl with | [_], _ => rfl) ?a ?l ?c ?k
      (case a => k_is); (case l => k_is); (case c => k_is); (case k => k_is)
    case D14 =>
      refine' L2.def_mk KX G (fun _ _ _ _ _ _ us hl => match us, hl with | [_], _ => rfl) ?a ?l ?c ?k
      (case a => k_is); (case l => k_is); (case c => k_is); (case k => k_is)
#print axioms PySem.Challenge.cw_fewsums_k09_shortest_chains_holds

