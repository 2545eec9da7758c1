import PyProof.Rows.All
import Wide.All
import OpenK.AllK
import Wide.FinOn
import Lean
import PyProof.EqAt
import PyProof.EqKinds
import PyProof.TupleCall
import PySem.Challenge.RW_relationladder_k11_sums_known
set_option Elab.async false
set_option linter.all false
set_option maxRecDepth 100000
/-! THE HAND LAYER, for ints, bools, texts, own classes, LISTS and tuples (index, slices, in, append, pop ..), calls, loops. Paste it whole ahead of your own text; what your proof does not reach may be deleted. -/
namespace L2
open PySem PySem.Spec PyProof.Rows

/-- a key: an int or a str -/
abbrev Key := Sum Int Str
def keyIs : Key → Value → Bool
  | .inl k, v => Value.isInt k v
  | .inr x, v => Value.isStrOf x v
def keyH (w : World) : Key → Int
  | .inl k => hashInt k
  | .inr x => hashStr w x
theorem keyIs_shape : ∀ {k : Key} {v : Value}, keyIs k v = true → (∃ i t, k = Sum.inl i ∧ v = Value.int i t) ∨ (∃ x t, k = Sum.inr x ∧ v = Value.str x t)
  | .inl i, v, h => by
    obtain ⟨t, e⟩ := Value.isInt_shape (k := i) (v := v) h
    exact .inl ⟨i, t, rfl, e⟩
  | .inr x, v, h => by
    obtain ⟨t, e⟩ := Value.isStrOf_shape (x := x) (v := v) h
    exact .inr ⟨x, t, rfl, e⟩
theorem keyIs_int (i : Int) (t : Tok) : keyIs (.inl i) (.int i t) = true := by simp [keyIs, Value.isInt]
theorem keyIs_str (x : Str) (t : Tok) : keyIs (.inr x) (.str x t) = true := by simp [keyIs, Value.isStrOf]
theorem key_ll (a b : Int) : decide ((Sum.inl a : Key) = Sum.inl b) = (a == b) := by
  by_cases e : a = b
  · subst e; simp
  · have h : ¬ (Sum.inl a : Key) = Sum.inl b := fun q => e (Sum.inl.inj q)
    rw [decide_eq_false h]
    exact (beq_eq_false_iff_ne.mpr e).symm
theorem key_rr (a b : Str) : decide ((Sum.inr a : Key) = Sum.inr b) = decide (a = b) := by
  by_cases e : a = b
  · subst e; simp
  · have h : ¬ (Sum.inr a : Key) = Sum.inr b := fun q => e (Sum.inr.inj q)
    rw [decide_eq_false h, decide_eq_false e]
theorem key_lr (a : Int) (b : Str) : decide ((Sum.inl a : Key) = Sum.inr b) = false := decide_eq_false (fun q => nomatch q)
theorem key_rl (a : Str) (b : Int) : decide ((Sum.inr a : Key) = Sum.inl b) = false := decide_eq_false (fun q => nomatch q)

def mixKind (prog : Program) (w : World) : PySem.KeyKind prog w Key where
  is := keyIs
  hash := keyH w
  inj := fun v a b ha hb => by
    rcases keyIs_shape ha with ⟨i, t, rfl, rfl⟩ | ⟨x, t, rfl, rfl⟩
    · rcases keyIs_shape hb with ⟨j, u, rfl, e⟩ | ⟨y, u, rfl, e⟩
      · injection e with e1 _; rw [e1]
      · exact nomatch e
    · rcases keyIs_shape hb with ⟨j, u, rfl, e⟩ | ⟨y, u, rfl, e⟩
      · exact nomatch e
      · injection e with e1 _; rw [e1]
  byValue := fun k v h => by
    rcases keyIs_shape h with ⟨i, t, rfl, rfl⟩ | ⟨x, t, rfl, rfl⟩ <;> rfl
  pyHash := fun hv h => by
    rcases keyIs_shape hv with ⟨i, t, rfl, rfl⟩ | ⟨x, t, rfl, rfl⟩
    · exact wpAny_pyHash_int h
    · exact wpAny_pyHash_str h
  eqBool := fun hu hv h => by
    rcases keyIs_shape hu with ⟨i, t, rfl, rfl⟩ | ⟨x, t, rfl, rfl⟩
    · rcases keyIs_shape hv with ⟨j, u, rfl, rfl⟩ | ⟨y, u, rfl, rfl⟩
      · rw [key_ll] at h; exact wpAny_eqBool_int h
      · rw [key_lr] at h; exact SeqAt.EqAt.int_str i t y u _ _ _ _ h
    · rcases keyIs_shape hv with ⟨j, u, rfl, rfl⟩ | ⟨y, u, rfl, rfl⟩
      · rw [key_rl] at h; exact SeqAt.EqAt.str_int x t j u _ _ _ _ h
      · rw [key_rr] at h; exact wpAny_eqBool_str h
  «strs» := fun k x t v h => by
    rcases keyIs_shape h with ⟨i, u, rfl, e⟩ | ⟨y, u, rfl, e⟩
    · exact nomatch e
    · injection e with e1 _
      subst e1
      cases v <;> rfl

theorem mixKind_int (prog : Program) (w : World) (i : Int) (t : Tok) : (mixKind prog w).is (.inl i) (.int i t) = true := keyIs_int i t
theorem mixKind_str (prog : Program) (w : World) (x : Str) (t : Tok) : (mixKind prog w).is (.inr x) (.str x t) = true := keyIs_str x t
end L2

namespace L2
open PySem PySem.Spec PyProof.Rows

/-- a value, without the heap -/
inductive V where
  | non | bl (b : Bool) | int (i : Int) | str (x : Str) | byt (b : Array UInt8) | flt (b : UInt64) | ref (a : Addr) | ty (n : String)
  deriving DecidableEq

def RelV : V → Value → Prop
  | .non, u => u = Value.none
  | .bl b, u => u = Value.bool b
  | .int i, u => ∃ t, u = Value.int i t
  | .str x, u => ∃ t, u = Value.str x t
  | .byt b, u => ∃ t, u = Value.bytes b t
  | .flt b, u => ∃ t, u = Value.float b t
  | .ref a, u => u = Value.ref a
  | .ty n, u => u = Value.type n

abbrev Vals : List V → List Value → Prop := Paired RelV
theorem Vals.length {xs : List V} {us : List Value} (r : Vals xs us) : xs.length = us.length := Paired.length r
theorem Vals.get : ∀ {xs : List V} {us : List Value} {i : Nat} {x : V}, Vals xs us → xs[i]? = some x → ∃ u, us[i]? = some u ∧ RelV x u
  | _, _, _, _, .nil, e => by simp at e
  | _, _, 0, _, .cons r _, e => by simp at e; subst e; exact ⟨_, rfl, r⟩
  | _, _, i + 1, x, .cons _ t, e => by
    obtain ⟨u, h1, h2⟩ := Vals.get (i := i) (x := x) t (by simpa using e)
    exact ⟨u, by simpa using h1, h2⟩
theorem Vals.set {x : V} {u : Value} (r : RelV x u) : ∀ {xs : List V} {us : List Value} (i : Nat), Vals xs us → Vals (xs.set i x) (us.set i u)
  | _, _, _, .nil => .nil
  | _, _, 0, .cons _ t => .cons r t
  | _, _, i + 1, .cons q t => .cons q (Vals.set r i t)
theorem Vals.append : ∀ {xs ys : List V} {us ws : List Value}, Vals xs us → Vals ys ws → Vals (xs ++ ys) (us ++ ws)
  | _, _, _, _, .nil, s => s
  | _, _, _, _, .cons r t, s => .cons r (Vals.append t s)
theorem Vals.take : ∀ {xs : List V} {us : List Value} (n : Nat), Vals xs us → Vals (xs.take n) (us.take n)
  | _, _, 0, _ => .nil
  | _, _, _ + 1, .nil => .nil
  | _, _, n + 1, .cons r t => .cons r (Vals.take n t)
theorem Vals.drop : ∀ {xs : List V} {us : List Value} (n : Nat), Vals xs us → Vals (xs.drop n) (us.drop n)
  | _, _, 0, r => r
  | _, _, _ + 1, .nil => .nil
  | _, _, n + 1, .cons _ t => Vals.drop n t

def RelO : Option V → Option Value → Prop
  | some v, some u => RelV v u
  | none, none => True
  | _, _ => False
def KV {κ : Type} : List (κ × V) → List (κ × Value) → Prop := Paired fun (p : κ × V) (q : κ × Value) => p.1 = q.1 ∧ RelV p.2 q.2

/-- a key of a dict (00_mix): an int or a text -/
def kV : Key → V
  | .inl i => .int i
  | .inr x => .str x

/-- what stands at a tracked address -/
inductive HO where
  /-- a list -/
  | lst (xs : List V)
  /-- a tuple (never changes) -/
  | tup (xs : List V)
  /-- a dict whose keys are ints and texts; one whose keys are tuples of ints and texts (the empty one is both) -/
  | dK (kvs : List (Key × V)) | dT (kvs : List (List Key × V))
  /-- a set of ints: its members, its size -/
  | set (S : Int → Bool) (n : Nat)
  /-- an instance of the class at C, its dict at dx, its attributes -/
  | ins (C dx : Addr) (fs : List (Str × V))
  /-- the dict of the instance at x -/
  | own (x : Addr)
  /-- the dict of an exception -/
  | xd (fs : List (Str × V))
  /-- a bound method, f of x -/
  | met (f x : Addr)
  /-- a range object lo, lo + 1, .. below hi -/
  | rng (lo hi : Int)
  /-- a thing that is known to the object (the script; a dict while a loop walks it): read, never written while it is so -/
  | frz (o : Obj) (u : HO)
  /-- a code object's table -/
  | tbl (ps : Array Value)
  /-- any other thing, by what is true of its one object (a def of one's own: SetO a S n := HO.ext fun h => ..) -/
  | ext (φ : Heap → Prop)

abbrev Hp := Addr → Option HO
def upd (H : Hp) (a : Addr) (o : HO) : Hp := fun b => if b = a then some o else H b
theorem upd_same {H : Hp} {a : Addr} {o : HO} : upd H a o a = some o := by unfold upd; rw [if_pos rfl]
theorem upd_ne {H : Hp} {a b : Addr} {o : HO} (h : b ≠ a) : upd H a o b = H b := by unfold upd; rw [if_neg h]
theorem upd_upd {H : Hp} {a : Addr} {o u : HO} : upd (upd H a o) a u = upd H a u := by
  funext b; unfold upd; split <;> rfl
/-- two objects of different content stand apart -/
theorem ne_of {H : Hp} {a b : Addr} {o u : HO} (h : H a = some o) (h' : H b = some u) (d : o ≠ u) : a ≠ b := by
  intro e; subst e; rw [h] at h'; exact d (Option.some.inj h')
theorem ne_of_none {H : Hp} {a b : Addr} {o : HO} (h : H a = some o) (h' : H b = none) : a ≠ b := by
  intro e; subst e; rw [h] at h'; cases h'

section
variable (P : Program) (w : World)
def ObjOk (H : Hp) (h : Heap) (a : Addr) : HO → Prop
  | .lst xs => xs.length ≤ sizeLine ∧ ∃ (its : List Value) (n : Nat), Vals xs its ∧ h.get? a = some { cls := .type "list", data := .seq its.toArray n }
  | .tup xs => xs.length ≤ sizeLine ∧ ∃ its : List Value, Vals xs its ∧ IsTup h a its.toArray
  | .dK kvs => kvs.length ≤ sizeLine ∧ (a == sysModules) = false ∧ ∃ vs, KV kvs vs ∧ h.DictOf (mixKind P w) a vs
  | .dT kvs => kvs.length ≤ sizeLine ∧ (a == sysModules) = false ∧ ∃ xs : List (List Key × Addr × Value),
      Paired (fun (p : List Key × V) (q : List Key × Addr × Value) => p.1 = q.1 ∧ H q.2.1 = some (.tup (p.1.map kV)) ∧ RelV p.2 q.2.2) kvs xs ∧
      ∃ o es ep, h.get? a = some o ∧ o.ExactDict ∧ o.data = .dict es ep ∧ es.toList = xs.map (entryOfKey (tupleKind (mixKind P w))) ∧ (xs.map (·.1)).Nodup
  | .set S n => h.SetOf (intKind P w) a S n
  | .ins C dx fs => H dx = some (.own a) ∧ fs.length ≤ 1000 ∧ dx ≠ a ∧ h.get? a = some (PySem.W.instObj C dx) ∧
      ∃ mA, h.Ns1 dx mA ∧ (∀ f, RelO (fs.lookup f) (mA f)) ∧ PySem.Within mA (fs.map (·.1))
  | .own _ => ∃ o, h.get? a = some o
  | .xd fs => ∃ mA, h.Ns1 a mA ∧ ∀ f, RelO (fs.lookup f) (mA f)
  | .rng lo hi => ∃ t u v, h.get? a = some { cls := .type "range", data := .fields #[.int lo t, .int hi u, .int 1 v] }
  | .frz o u => h.get? a = some o ∧ ObjOk H h a u
  | .tbl ps => h.get? a = some { cls := .none, data := .fields ps }
  | .met f x => h.get? a = some (PySem.W.methodObj (.ref f) (.ref x))
  | .ext φ => φ h ∧ (∃ o, h.get? a = some o) ∧ ∀ h1 h2 : Heap, φ h1 → (∀ o, h1.get? a = some o → h2.get? a = some o) → φ h2
/-- the abstract heap is held -/
def HOk (H : Hp) (h : Heap) : Prop := ∀ a o, H a = some o → ObjOk P w H h a o
end

section
variable {P : Program} {w : World} {H H' : Hp} {h h' : Heap} {a : Addr} {o : HO}
theorem ObjOk.lt (x : ObjOk P w H h a o) : a < h.objs.size := by
  cases o with
  | lst xs => obtain ⟨_, _, _, _, e⟩ := x; exact Heap.lt_size e
  | tup xs => obtain ⟨_, _, _, p⟩ := x; exact p.lt
  | dK kvs => obtain ⟨_, _, _, _, o, _, _, e, _⟩ := x; exact Heap.lt_size e
  | dT kvs => obtain ⟨_, _, _, _, o, _, _, e, _⟩ := x; exact Heap.lt_size e
  | set S n => obtain ⟨o, _, _, _, e, _⟩ := x; exact Heap.lt_size e
  | ins C dx fs => obtain ⟨_, _, _, e, _⟩ := x; exact Heap.lt_size e
  | own y => obtain ⟨_, e⟩ := x; exact Heap.lt_size e
  | xd fs => obtain ⟨_, ⟨_, _, _, e, _⟩, _⟩ := x; exact Heap.lt_size e
  | rng lo hi => obtain ⟨_, _, _, e⟩ := x; exact Heap.lt_size e
  | frz ob u => obtain ⟨e, _⟩ := x; exact Heap.lt_size e
  | tbl ps => exact Heap.lt_size (show h.get? a = some _ from x)
  | met f y => exact Heap.lt_size (show h.get? a = some _ from x)
  | ext φ => obtain ⟨_, ⟨_, e⟩, _⟩ := x; exact Heap.lt_size e
theorem Paired.mapP {α β : Type} {F G : α → β → Prop} : ∀ {l₁ : List α} {l₂ : List β}, Paired F l₁ l₂ → (∀ a b, F a b → G a b) → Paired G l₁ l₂
  | _, _, .nil, _ => .nil
  | _, _, .cons r t, f => .cons (f _ _ r) (Paired.mapP t f)
/-- what an object's description leans on: its own object, its own dict, the tuples -/
theorem ObjOk.stay (x : ObjOk P w H h a o) (k : ∀ b u, (b = a ∨ H b = some (.own a)) → h.get? b = some u → h'.get? b = some u)
    (ho : ∀ b, H b = some (.own a) → H' b = some (.own a)) (ht : ∀ b xs, H b = some (.tup xs) → H' b = some (.tup xs)) : ObjOk P w H' h' a o := by
  induction o with
  | lst xs => obtain ⟨z, its, n, r, e⟩ := x; exact ⟨z, its, n, r, k _ _ (.inl rfl) e⟩
  | tup xs => obtain ⟨z, its, r, ob, e, c⟩ := x; exact ⟨z, its, r, ob, k _ _ (.inl rfl) e, c⟩
  | dK kvs => obtain ⟨z, y, vs, r, ob, es, ep, e, c⟩ := x; exact ⟨z, y, vs, r, ob, es, ep, k _ _ (.inl rfl) e, c⟩
  | dT kvs =>
    obtain ⟨z, y, xs, r, ob, es, ep, e, c⟩ := x
    exact ⟨z, y, xs, Paired.mapP r fun p q z => ⟨z.1, ht _ _ z.2.1, z.2.2⟩, ob, es, ep, k _ _ (.inl rfl) e, c⟩
  | set S n => obtain ⟨ob, es, ep, t, e, c⟩ := x; exact ⟨ob, es, ep, t, k _ _ (.inl rfl) e, c⟩
  | ins C dx fs =>
    obtain ⟨d, z, ne, e, mA, ⟨od, es, ep, e2, c⟩, r⟩ := x
    exact ⟨ho _ d, z, ne, k _ _ (.inl rfl) e, mA, ⟨od, es, ep, k _ _ (.inr d) e2, c⟩, r⟩
  | own y => obtain ⟨ob, e⟩ := x; exact ⟨ob, k _ _ (.inl rfl) e⟩
  | xd fs => obtain ⟨mA, ⟨od, es, ep, e, c⟩, r⟩ := x; exact ⟨mA, ⟨od, es, ep, k _ _ (.inl rfl) e, c⟩, r⟩
  | rng lo hi => obtain ⟨t, u, v, e⟩ := x; exact ⟨t, u, v, k _ _ (.inl rfl) e⟩
  | frz ob u ih => obtain ⟨e, q⟩ := x; exact ⟨k _ _ (.inl rfl) e, ih q⟩
  | tbl ps =>
    have e : h.get? a = some { cls := .none, data := .fields ps } := x
    show h'.get? a = some { cls := .none, data := .fields ps }
    exact k a _ (.inl rfl) e
  | met f y =>
    have e : h.get? a = some (PySem.W.methodObj (.ref f) (.ref y)) := x
    show h'.get? a = some (PySem.W.methodObj (.ref f) (.ref y))
    exact k a _ (.inl rfl) e
  | ext φ => obtain ⟨p, ⟨o, e⟩, st⟩ := x; exact ⟨st _ _ p fun o q => k _ _ (.inl rfl) q, ⟨o, k _ _ (.inl rfl) e⟩, st⟩
theorem HOk.lt (x : HOk P w H h) (e : H a = some o) : a < h.objs.size := (x a o e).lt
theorem HOk.fresh (x : HOk P w H h) (e : h.objs.size ≤ a) : H a = none := by
  cases q : H a with
  | none => rfl
  | some u => exact absurd (Nat.lt_of_lt_of_le (x.lt q) e) (Nat.lt_irrefl _)
/-- every object of the heap is kept -/
theorem HOk.kept (x : HOk P w H h) (k : ∀ b u, h.get? b = some u → h'.get? b = some u) : HOk P w H h' := fun a o e =>
  (x a o e).stay (fun b u _ q => k b u q) (fun _ q => q) fun _ _ q => q
/-- a new object is laid and tracked -/
theorem HOk.laid (x : HOk P w H h) (k : ∀ b u, h.get? b = some u → h'.get? b = some u) (hp : h.objs.size ≤ a) (new : ObjOk P w (upd H a o) h' a o) : HOk P w (upd H a o) h' := fun b u e => by
  have hn := x.fresh hp
  by_cases hb : b = a
  · subst hb; rw [upd_same] at e; cases e; exact new
  · rw [upd_ne hb] at e
    exact (x b u e).stay (fun c v _ q => k c v q) (fun c q => by rw [upd_ne (ne_of_none q hn)]; exact q) fun c xs q => by rw [upd_ne (ne_of_none q hn)]; exact q
end

/-- what may be read as u: it is u, or a known u -/
def Rd (H : Hp) (a : Addr) (u : HO) : Prop := H a = some u ∨ ∃ o, H a = some (.frz o u)
theorem Rd.ok {P : Program} {w : World} {H : Hp} {h : Heap} {a : Addr} {u : HO} (r : Rd H a u) (x : HOk P w H h) : ObjOk P w H h a u := by
  rcases r with r | ⟨o, r⟩
  · exact x a u r
  · obtain ⟨_, q⟩ := x a _ r
    exact q
/-- what may be written -/
def Mut : Option HO → Prop
  | some (.lst _) => True
  | some (.dK _) => True
  | some (.dT _) => True
  | some (.set _ _) => True
  | some (.ins _ _ _) => True
  | some (.ext _) => True
  | _ => False
section
variable {P : Program} {w : World} {H : Hp} {h h' : Heap} {x e : Addr} {o' : HO}
/-- the object at e is changed: x itself, or the dict of the instance x -/
theorem HOk.write (ok : HOk P w H h) (mu : Mut (H x)) (he : e = x ∨ H e = some (.own x)) (k : ∀ b u, b ≠ e → h.get? b = some u → h'.get? b = some u) (heo : ∃ u, h'.get? e = some u)
    (new : ObjOk P w (upd H x o') h' x o') : HOk P w (upd H x o') h' := fun b u q => by
  have nown : ∀ c y, H c = some (.own y) → c ≠ x := fun c y r z => by subst z; rw [r] at mu; exact mu
  have ntup : ∀ c xs, H c = some (.tup xs) → c ≠ x := fun c xs r z => by subst z; rw [r] at mu; exact mu
  by_cases hb : b = x
  · subst hb; rw [upd_same] at q; cases q; exact new
  · rw [upd_ne hb] at q
    by_cases hbe : b = e
    · have q' : H b = some (.own x) := by
        rcases he with z | z
        · exact absurd (hbe.trans z) hb
        · rw [hbe]; exact z
      rw [q] at q'; cases q'
      obtain ⟨v, hv⟩ := heo
      exact ⟨v, by rw [hbe]; exact hv⟩
    · refine (ok b u q).stay (fun c v hc r => k c v ?_ r) (fun c r => by rw [upd_ne (nown c b r)]; exact r) fun c xs r => by rw [upd_ne (ntup c xs r)]; exact r
      rcases hc with rfl | hc
      · exact hbe
      · rintro rfl
        rcases he with z | z
        · exact nown c b hc z
        · rw [hc] at z; cases z; exact hb rfl
end

/-! ### kept unless tracked; of the frames at fs (the callers') the slots may change (an exception that passes writes there); of the records at ex (iterators) nothing is said -/
structure Un (fs ex : List Addr) (H H' : Hp) (h h' : Heap) : Prop where
  keep : ∀ b o, h.get? b = some o → H b = none → b ∉ fs → b ∉ ex → h'.get? b = some o
  slot : ∀ b o, h.get? b = some o → H b = none → b ∈ fs → b ∉ ex → ∃ sl, h'.get? b = some { o with slots := sl }
  free : ∀ b o, h.get? b = some o → H b = none → b ∉ ex → H' b = none
  there : ∀ b o, h.get? b = some o → b ∉ ex → ∃ o', h'.get? b = some o'
  tups : ∀ b xs, H b = some (.tup xs) → H' b = some (.tup xs)
  frzs : ∀ b o u, H b = some (.frz o u) → H' b = some (.frz o u)
  tbls : ∀ b ps, H b = some (.tbl ps) → ∃ more, H' b = some (.tbl (ps ++ more))
section
variable {fs fs' ex ex' : List Addr} {H H1 H2 : Hp} {h h1 h2 h' : Heap} {a x e : Addr} {o : HO}
theorem Un.any (u : Un fs ex H H1 h h1) {b : Addr} {ob : Obj} (q : h.get? b = some ob) (n : H b = none) (hx : b ∉ ex) : ∃ sl, h1.get? b = some { ob with slots := sl } := by
  by_cases hb : b ∈ fs
  · exact u.slot b ob q n hb hx
  · exact ⟨ob.slots, u.keep b ob q n hb hx⟩
theorem Un.kept (k : ∀ b u, h.get? b = some u → h'.get? b = some u) : Un fs ex H H h h' :=
  ⟨fun b ob q _ _ _ => k b ob q, fun b ob q _ _ _ => ⟨ob.slots, k b ob q⟩, fun _ _ _ n _ => n, fun b ob q _ => ⟨ob, k b ob q⟩, fun _ _ q => q, fun _ _ _ q => q, fun _ ps q => ⟨#[], by rw [q]; simp⟩⟩
theorem Un.refl : Un fs ex H H h h := Un.kept fun _ _ q => q
theorem Un.laid (k : ∀ b u, h.get? b = some u → h'.get? b = some u) (hp : h.objs.size ≤ a) (hn : H a = none) : Un fs ex H (upd H a o) h h' where
  keep := fun b u q _ _ _ => k b u q
  slot := fun b u q _ _ _ => ⟨u.slots, k b u q⟩
  free := fun b u q n _ => by rw [upd_ne (Nat.ne_of_lt (Nat.lt_of_lt_of_le (Heap.lt_size q) hp))]; exact n
  there := fun b u q _ => ⟨u, k b u q⟩
  tups := fun b xs q => by rw [upd_ne (ne_of_none q hn)]; exact q
  frzs := fun b u xs q => by rw [upd_ne (ne_of_none q hn)]; exact q
  tbls := fun b ps q => ⟨#[], by rw [upd_ne (ne_of_none q hn), q]; simp⟩
theorem Un.write (mu : Mut (H x)) (he : e = x ∨ H e = some (.own x)) (k : ∀ b u, b ≠ e → h.get? b = some u → h'.get? b = some u) (heo : ∃ u, h'.get? e = some u) : Un fs ex H (upd H x o) h h' := by
  have hx : ∀ b, H b = none → b ≠ x := fun b n z => by subst z; rw [n] at mu; exact mu
  have hb : ∀ b, H b = none → b ≠ e := fun b n z => by
    subst z
    rcases he with r | r
    · exact hx b n r
    · rw [n] at r; cases r
  have hm : ∀ b u, H b = some u → ¬ Mut (some u) → b ≠ x := fun b u q nm z => by subst z; rw [q] at mu; exact nm mu
  refine ⟨fun b u q n _ _ => k b u (hb b n) q, fun b u q n _ _ => ⟨u.slots, k b u (hb b n) q⟩, fun b u q n _ => by rw [upd_ne (hx b n)]; exact n, fun b u q _ => ?_,
    fun b xs q => by rw [upd_ne (hm b _ q fun z => z)]; exact q, fun b u xs q => by rw [upd_ne (hm b _ q fun z => z)]; exact q, fun b ps q => ⟨#[], by rw [upd_ne (hm b _ q fun z => z), q]; simp⟩⟩
  by_cases hbe : b = e
  · subst hbe; exact heo
  · exact ⟨u, k b u hbe q⟩
end

/-! ### the heap without what is tracked -/
def trk (h : Heap) (H : Hp) : List Addr := (List.range h.objs.size).filter fun a => (H a).isSome
def hidT (h : Heap) (H : Hp) : Heap := PySem.W.hideAll h (trk h H)
theorem hidT_size (h : Heap) (H : Hp) : (hidT h H).objs.size = h.objs.size := PySem.W.hideAll_size _ _
theorem hidT_get {h : Heap} {H : Hp} {b : Addr} {o : Obj} (e : h.get? b = some o) (n : H b = none) : (hidT h H).get? b = some o :=
  PySem.W.hideAll_get _ e fun hm => by
    have q : (H b).isSome = true := (List.mem_filter.mp hm).2
    rw [n] at q; simp at q
theorem of_hidT {h : Heap} {H : Hp} {b : Addr} {o : Obj} (e : (hidT h H).get? b = some o) : h.get? b = some o ∧ H b = none := by
  have e' : h.get? b = some o := PySem.W.of_hideAll (trk h H) e
  refine ⟨e', ?_⟩
  cases q : H b with
  | none => rfl
  | some x =>
    have hm : b ∈ trk h H := List.mem_filter.mpr ⟨List.mem_range.mpr (Heap.lt_size e'), by simp [q]⟩
    have z : (hidT h H).get? b = none := PySem.W.hideAll_none (trk h H) hm
    rw [z] at e; cases e

/-! ### OpenK's ledger, filled with every new object but one -/
end L2

namespace L2
open PySem PySem.Spec PyProof.Rows

/-- the module's facts, over the base: the heap at the law's entry without what is tracked there -/
structure Mod (K : PySem.W.Frag) (mg : Str → Option Value) (base : Heap) : Prop where
  kin : K.In base
  glob : base.Ns mainGlobals mg
  blt : ∃ mb, base.Ns builtinsNs mb ∧ ∀ x : Str, x ≠ "__name__" → mb x = bootBuiltins x
  nolimit : base.NoLimit

/-- the context: a def's body (or a comprehension's block) running. base: fixed through the whole law; s₀, H₀: the entry; outer: the frames whose slots others may change (a def's callers); stack: all frames that run;
   ex: iterators that were made ahead of the entry and are walked here (a comprehension's); fn: the names whose cells were made at the entry (a def: all; a comprehension's block: its own); calm: not within an except suite; pn: pins that every state bears; xe: what is wanted of an exception that leaves the code -/
structure Cx where
  prog : Program
  w : World
  K : PySem.W.Frag
  mg : Str → Option Value
  base : Heap
  A : Around
  N : List Str
  s₀ : Shared
  H₀ : Hp
  env : Env
  outer : List Env
  stack : List Env
  ex : List Addr
  fn : Str → Bool
  calm : Bool
  pn : List (Addr × Obj)
  xe : Value → Shared → Prop
/-- the callers' frames -/
def frs (l : List Env) : List Addr := l.filterMap (·.frame)
abbrev Cx.fs (X : Cx) : List Addr := frs X.outer

def Vis (sc : Scope) (x : Str) : Prop := sc.names.lookup x = some .local ∨ sc.names.lookup x = some .cell ∨ sc.names.lookup x = some .free
def Loc (sc : Scope) (x : Str) : Prop := sc.names.lookup x = some .local ∨ sc.names.lookup x = some .cell
def Look (env : Env) (h : Heap) (m : Str → Option Value) (x : Str) (u : Value) : Prop :=
  (env.kindOf x = some .local ∧ m x = some u) ∨ ((env.kindOf x = some .cell ∨ env.kindOf x = some .free) ∧ ∃ c, env.cells.lookup x = some c ∧ h.IsCell c (some u))

structure Cx.Ok (X : Cx) : Prop where
  mod : Mod X.K X.mg X.base
  kind : X.env.scope.kind = .function
  glob : X.env.globals = mainGlobals
  blt : X.env.builtins = builtinsNs
  above : X.s₀.heap.objs.size ≤ X.env.locals
  inj : ∀ x y c, X.env.cells.lookup x = some c → X.env.cells.lookup y = some c → x = y
  has : ∀ x, (X.env.kindOf x = some .cell ∨ X.env.kindOf x = some .free) → ∃ c, X.env.cells.lookup x = some c
  cab : ∀ x c, X.fn x = true → X.env.cells.lookup x = some c → X.s₀.heap.objs.size ≤ c
  hd : X.calm = true → X.A.handled = none
  frames : X.A.frames = some X.stack
  stk : X.stack = X.outer ∨ (X.stack = X.env :: X.outer ∧ X.env.frame = some X.env.locals)
  exf : ∀ b ∈ X.ex, b ≠ X.env.locals ∧ ∀ x c, X.env.cells.lookup x = some c → c ≠ b
  bs : ∀ b o, X.base.get? b = some o → X.s₀.heap.get? b = some o ∧ X.H₀ b = none
  bsz : X.base.objs.size ≤ X.s₀.heap.objs.size
  noex : ∀ b o, X.base.get? b = some o → b ∉ X.ex
  exfs : ∀ b ∈ X.ex, b ∉ X.fs
  funs : X.s₀.heap.FunFrames X.base X.outer
  frf : ∀ b ∈ X.fs, X.H₀ b = none

structure Inv (X : Cx) (pins : List (Addr × Obj)) (σ : List (Option V)) (H : Hp) (s : Shared) : Prop where
  ok : X.Ok
  os : s.os = X.s₀.os
  bare : AllBare s.gens
  base : Un X.fs X.ex X.H₀ H X.s₀.heap s.heap
  loc : ∃ m, s.heap.Ns X.env.locals m ∧ ∀ (i : Nat) (x : Str) (v : V), X.N[i]? = some x → σ[i]? = some (some v) → Vis X.env.scope x → ∃ u, RelV v u ∧ Look X.env s.heap m x u
  cell : ∀ x c, X.env.cells.lookup x = some c → ∃ v, s.heap.IsCell c v
  free : H X.env.locals = none
  freeC : ∀ x c, X.env.cells.lookup x = some c → H c = none
  pin : ∀ p ∈ X.pn ++ pins, s.heap.get? p.1 = some p.2 ∧ H p.1 = none ∧ p.1 ≠ X.env.locals ∧ p.1 ∉ X.fs ∧ ∀ v, p.2.data ≠ .cell v
  hok : HOk X.prog X.w H s.heap
  len : σ.length = X.N.length

section
variable {X : Cx} {pins : List (Addr × Obj)} {σ : List (Option V)} {H H' : Hp} {s : Shared} {h' : Heap}

theorem Cx.Ok.nofr (ok : X.Ok) {b : Addr} {o : Obj} (e : X.base.get? b = some o) : b ∉ X.fs := fun hb => by
  have := (ok.funs.mem hb).1
  rw [e] at this; cases this
theorem Inv.bs (I : Inv X pins σ H s) : ∀ b o, X.base.get? b = some o → s.heap.get? b = some o ∧ H b = none := fun b o e =>
  ⟨I.base.keep b o (I.ok.bs b o e).1 (I.ok.bs b o e).2 (I.ok.nofr e) (I.ok.noex b o e), I.base.free b o (I.ok.bs b o e).1 (I.ok.bs b o e).2 (I.ok.noex b o e)⟩
theorem Inv.bk (I : Inv X pins σ H s) : ∀ b o, X.base.get? b = some o → s.heap.get? b = some o := fun b o e => (I.bs b o e).1
theorem Inv.mod (I : Inv X pins σ H s) : Mod X.K X.mg X.base := I.ok.mod
theorem Inv.kIn (I : Inv X pins σ H s) : X.K.In s.heap := I.ok.mod.kin.keeps I.bk
theorem Inv.lt (I : Inv X pins σ H s) : X.env.locals < s.heap.objs.size := let ⟨_, hn, _⟩ := I.loc; hn.lt
theorem Inv.sz (I : Inv X pins σ H s) : X.s₀.heap.objs.size ≤ s.heap.objs.size := Nat.le_trans I.ok.above (Nat.le_of_lt I.lt)
theorem Inv.nofs (I : Inv X pins σ H s) {a : Addr} (h : s.heap.objs.size ≤ a) : a ∉ X.fs := fun hb => by
  obtain ⟨_, o, ho, _⟩ := I.ok.funs.mem hb
  exact absurd (Nat.lt_of_lt_of_le (Heap.lt_size ho) (Nat.le_trans I.sz h)) (Nat.lt_irrefl _)
theorem Inv.cne (I : Inv X pins σ H s) : ∀ x c, X.env.cells.lookup x = some c → c ≠ X.env.locals := fun x c e z => by
  obtain ⟨v, o, ho, hd⟩ := I.cell x c e
  obtain ⟨m, ⟨o', es, ep, ho', hd', _⟩, _⟩ := I.loc
  rw [z, ho'] at ho; cases ho; rw [hd'] at hd; cases hd
theorem Inv.funs (I : Inv X pins σ H s) : s.heap.FunFrames X.base X.outer := by
  have all : ∀ (l : List Env), (∀ b ∈ frs l, b ∈ X.fs) → X.s₀.heap.FunFrames X.base l → s.heap.FunFrames X.base l := by
    intro l
    induction l with
    | nil => intro _ _; trivial
    | cons env r ih =>
      intro hs hl
      obtain ⟨hk, ⟨L, o, hf, hn, ho, hd⟩, hr⟩ := hl
      have hL : L ∈ X.fs := hs L (by unfold frs; rw [List.filterMap_cons, hf]; exact List.mem_cons_self)
      obtain ⟨sl, e⟩ := I.base.slot L o ho (I.ok.frf L hL) hL fun z => I.ok.exfs L z hL
      exact ⟨hk, ⟨L, _, hf, hn, e, hd⟩, ih (fun b hb => hs b (by unfold frs; rw [List.filterMap_cons, hf]; exact List.mem_cons_of_mem _ hb)) hr⟩
  exact all X.outer (fun _ hb => hb) I.ok.funs

/-- the frames that run, for a call -/
theorem Inv.stack (I : Inv X pins σ H s) : s.heap.FunFrames X.base X.stack := by
  rcases I.ok.stk with e | ⟨e, hf⟩
  · rw [e]; exact I.funs
  · rw [e]
    obtain ⟨m, hn, _⟩ := I.loc
    refine .cons (by rw [I.ok.kind]; decide) hf hn ?_ I.funs
    exact Heap.get?_none_of_le (Nat.le_trans I.ok.bsz I.ok.above)
theorem Inv.stkSub (I : Inv X pins σ H s) : ∀ b ∈ frs X.stack, b ∈ X.env.locals :: X.fs := fun b hb => by
  rcases I.ok.stk with e | ⟨e, hf⟩
  · rw [e] at hb; exact List.mem_cons_of_mem _ hb
  · rw [e] at hb
    unfold frs at hb
    rw [List.filterMap_cons, hf] at hb
    exact hb
theorem Inv.stkFree (I : Inv X pins σ H s) : ∀ b ∈ frs X.stack, H b = none := fun b hb => by
  rcases List.mem_cons.mp (I.stkSub b hb) with e | hb
  · rw [e]; exact I.free
  · obtain ⟨_, o, ho, _⟩ := I.ok.funs.mem hb
    exact I.base.free b o ho (I.ok.frf b hb) fun z => I.ok.exfs b z hb

/-- THE STEP: the untracked objects but the frame and the records at ch are kept (the callers' frames up to slots), the frame's map is kept, the new abstract heap is held -/
theorem Inv.step {g' : Array GenState} {t' : Nat} {d' : Drawn} {ch : List Addr} (I : Inv X pins σ H s)
    (hch : ∀ b ∈ ch, (b ∈ X.ex ∨ X.s₀.heap.objs.size ≤ b) ∧ b ≠ X.env.locals ∧ (∀ x c, X.env.cells.lookup x = some c → c ≠ b) ∧ ∀ p ∈ X.pn ++ pins, p.1 ≠ b)
    (keep : ∀ b o, b ≠ X.env.locals → b ∉ X.fs → b ∉ ch → s.heap.get? b = some o → H b = none → h'.get? b = some o)
    (slot : ∀ b o, b ≠ X.env.locals → b ∈ X.fs → b ∉ ch → s.heap.get? b = some o → H b = none → ∃ sl, h'.get? b = some { o with slots := sl }) (free : ∀ b o, b ∉ ch → s.heap.get? b = some o → H b = none → H' b = none)
    (there : ∀ b o, b ∉ ch → s.heap.get? b = some o → ∃ o', h'.get? b = some o')
    (tups : ∀ b xs, H b = some (.tup xs) → H' b = some (.tup xs)) (frzs : ∀ b o u, H b = some (.frz o u) → H' b = some (.frz o u)) (tbls : ∀ b ps, H b = some (.tbl ps) → ∃ more, H' b = some (.tbl (ps ++ more)))
    (ns : ∀ m, s.heap.Ns X.env.locals m → h'.Ns X.env.locals m) (hok : HOk X.prog X.w H' h') (hg : AllBare g') :
    Inv X pins σ H' { s with heap := h', gens := g', drawn := d', toks := t' } := by
  have neL : ∀ b o, X.s₀.heap.get? b = some o → b ≠ X.env.locals := fun b o e => Nat.ne_of_lt (Nat.lt_of_lt_of_le (Heap.lt_size e) I.ok.above)
  have neC : ∀ b o, X.s₀.heap.get? b = some o → b ∉ X.ex → b ∉ ch := fun b o e hx hb => by
    rcases (hch b hb).1 with z | z
    · exact hx z
    · exact absurd (Nat.lt_of_lt_of_le (Heap.lt_size e) z) (Nat.lt_irrefl _)
  have cellK : ∀ x c, X.env.cells.lookup x = some c → ∀ v, s.heap.IsCell c v → h'.IsCell c v := fun x c e v ⟨o, ho, hd⟩ => by
    have nch : c ∉ ch := fun z => (hch c z).2.2.1 x c e rfl
    by_cases hc : c ∈ X.fs
    · obtain ⟨sl, q⟩ := slot c o (I.cne x c e) hc nch ho (I.freeC x c e)
      exact ⟨_, q, hd⟩
    · exact ⟨o, keep c o (I.cne x c e) hc nch ho (I.freeC x c e), hd⟩
  refine ⟨I.ok, I.os, hg, ⟨fun b o e n hb hx => ?_, fun b o e n hb hx => ?_, fun b o e n hx => ?_, fun b o e hx => ?_, fun b xs e => tups b xs (I.base.tups b xs e), fun b o xs e => frzs b o xs (I.base.frzs b o xs e), fun b ps e => ?_⟩, ?_, fun x c e => ?_, ?_, fun x c e => ?_, fun p hp => ?_, hok, I.len⟩
  · exact keep b o (neL b o e) hb (neC b o e hx) (I.base.keep b o e n hb hx) (I.base.free b o e n hx)
  · obtain ⟨sl, e1⟩ := I.base.slot b o e n hb hx
    obtain ⟨sl', e2⟩ := slot b _ (neL b o e) hb (neC b o e hx) e1 (I.base.free b o e n hx)
    exact ⟨sl', e2⟩
  · obtain ⟨o', e1⟩ := I.base.there b o e hx
    exact free b o' (neC b o e hx) e1 (I.base.free b o e n hx)
  · obtain ⟨o', e1⟩ := I.base.there b o e hx
    exact there b o' (neC b o e hx) e1
  · obtain ⟨m1, e1⟩ := I.base.tbls b ps e
    obtain ⟨m2, e2⟩ := tbls b _ e1
    exact ⟨m1 ++ m2, by rw [e2, Array.append_assoc]⟩
  · obtain ⟨m, hn, hl⟩ := I.loc
    refine ⟨m, ns m hn, fun i x v e1 e2 e3 => ?_⟩
    obtain ⟨u, r, l⟩ := hl i x v e1 e2 e3
    refine ⟨u, r, ?_⟩
    rcases l with l | ⟨k, c, e, z⟩
    · exact .inl l
    · exact .inr ⟨k, c, e, cellK x c e _ z⟩
  · obtain ⟨v, z⟩ := I.cell x c e
    exact ⟨v, cellK x c e v z⟩
  · obtain ⟨m, ⟨o, _, _, ho, _⟩, _⟩ := I.loc
    exact free _ o (fun z => (hch _ z).2.1 rfl) ho I.free
  · obtain ⟨v, o, ho, hd⟩ := I.cell x c e
    exact free c o (fun z => (hch c z).2.2.1 x c e rfl) ho (I.freeC x c e)
  · obtain ⟨e, n, ne, nf, d⟩ := I.pin p hp
    have nch : p.1 ∉ ch := fun z => (hch p.1 z).2.2.2 p hp rfl
    exact ⟨keep p.1 p.2 ne nf nch e n, free p.1 p.2 nch e n, ne, nf, d⟩
/-- .. where the frame's own object is kept too -/
theorem Inv.un {t' : Nat} (I : Inv X pins σ H s) (u : Un X.fs [] H H' s.heap h') (hok : HOk X.prog X.w H' h') : Inv X pins σ H' { s with heap := h', toks := t' } := by
  obtain ⟨m, ⟨o, es, ep, ho, r⟩, _⟩ := id I.loc
  obtain ⟨sl, hL⟩ := u.any ho I.free (by simp)
  exact I.step (g' := s.gens) (d' := s.drawn) (ch := []) (fun _ z => nomatch z) (fun b o _ hb _ e n => u.keep b o e n hb (by simp)) (fun b o _ hb _ e n => u.slot b o e n hb (by simp)) (fun b o _ e n => u.free b o e n (by simp)) (fun b o _ e => u.there b o e (by simp)) u.tups u.frzs u.tbls (fun m' hm => by
    obtain ⟨o', es', ep', ho', r'⟩ := hm
    rw [ho] at ho'; cases ho'
    exact ⟨_, es', ep', hL, r'⟩) hok I.bare
/-- behind a call (or a comprehension's block): the slots of this frame may have changed too, the records at ch may have turned -/
theorem Inv.call {g' : Array GenState} {t' : Nat} {d' : Drawn} {ch : List Addr} (I : Inv X pins σ H s) (u : Un (frs X.stack) ch H H' s.heap h') (hok : HOk X.prog X.w H' h') (hg : AllBare g')
    (hch : ∀ b ∈ ch, (b ∈ X.ex ∨ X.s₀.heap.objs.size ≤ b) ∧ b ≠ X.env.locals ∧ (∀ x c, X.env.cells.lookup x = some c → c ≠ b) ∧ ∀ p ∈ X.pn ++ pins, p.1 ≠ b) :
    Inv X pins σ H' { s with heap := h', gens := g', drawn := d', toks := t' } := by
  obtain ⟨m, ⟨o, es, ep, ho, r⟩, _⟩ := id I.loc
  obtain ⟨sl, hL⟩ := u.any ho I.free fun z => (hch _ z).2.1 rfl
  exact I.step (ch := ch) hch (fun b o hL hb hc e n => u.keep b o e n (fun z => (List.mem_cons.mp (I.stkSub b z)).elim hL hb) hc) (fun b o _ _ hc e n => u.any e n hc) (fun b o hc e n => u.free b o e n hc) (fun b o hc e => u.there b o e hc) u.tups u.frzs u.tbls (fun m' hm => by
    obtain ⟨o', es', ep', ho', r'⟩ := hm
    rw [ho] at ho'; cases ho'
    exact ⟨_, es', ep', hL, r'⟩) hok hg
/-- an untracked record of ours (an iterator) has turned -/
theorem Inv.turned {t' : Nat} {it : Addr} (I : Inv X pins σ H s) (k : ∀ b o, b ≠ it → s.heap.get? b = some o → h'.get? b = some o) (hn : H it = none) (hL : it ≠ X.env.locals)
    (h1 : it ∈ X.ex ∨ X.s₀.heap.objs.size ≤ it) (h2 : ∀ x c, X.env.cells.lookup x = some c → c ≠ it) (h3 : ∀ p ∈ X.pn ++ pins, p.1 ≠ it) : Inv X pins σ H { s with heap := h', toks := t' } := by
  have nit : ∀ b u, H b = some u → b ≠ it := fun b u e z => by rw [z, hn] at e; cases e
  refine I.step (g' := s.gens) (d' := s.drawn) (ch := [it]) (fun b hb => ?_) (fun b o _ _ hc e _ => k b o (fun z => hc (by simp [z])) e) (fun b o _ _ hc e _ => ⟨o.slots, k b o (fun z => hc (by simp [z])) e⟩) (fun _ _ _ _ n => n)
    (fun b o hc e => ⟨o, k b o (fun z => hc (by simp [z])) e⟩) (fun _ _ e => e) (fun _ _ _ e => e) (fun b ps e => ⟨#[], by rw [e]; simp⟩) (fun m hm => ?_) (fun b u e => ?_) I.bare
  · have e : b = it := by simpa using hb
    subst e
    exact ⟨h1, hL, h2, h3⟩
  · obtain ⟨o, es, ep, ho, r⟩ := hm
    exact ⟨o, es, ep, k _ o (Ne.symm hL) ho, r⟩
  · refine (I.hok b u e).stay (fun c v hc q => k c v ?_ q) (fun _ q => q) fun _ _ q => q
    rcases hc with z | z
    · rw [z]; exact nit b u e
    · exact nit c _ z
theorem Inv.tok (I : Inv X pins σ H s) (t : Nat) : Inv X pins σ H { s with toks := t } := I.un (h' := s.heap) (t' := t) Un.refl I.hok
/-- all objects kept -/
theorem Inv.kept {t' : Nat} (I : Inv X pins σ H s) (k : ∀ b u, s.heap.get? b = some u → h'.get? b = some u) : Inv X pins σ H { s with heap := h', toks := t' } := I.un (Un.kept k) (I.hok.kept k)
/-- a new object laid and tracked -/
theorem Inv.laid {a : Addr} {o : HO} {t' : Nat} (I : Inv X pins σ H s) (k : ∀ b u, s.heap.get? b = some u → h'.get? b = some u) (hp : s.heap.objs.size ≤ a) (new : ObjOk X.prog X.w (upd H a o) h' a o) :
    Inv X pins σ (upd H a o) { s with heap := h', toks := t' } := I.un (Un.laid k hp (I.hok.fresh hp)) (I.hok.laid k hp new)
/-- an object written -/
theorem Inv.write {x e : Addr} {o : HO} {t' : Nat} (I : Inv X pins σ H s) (mu : Mut (H x)) (he : e = x ∨ H e = some (.own x)) (k : ∀ b u, b ≠ e → s.heap.get? b = some u → h'.get? b = some u) (heo : ∃ u, h'.get? e = some u)
    (new : ObjOk X.prog X.w (upd H x o) h' x o) : Inv X pins σ (upd H x o) { s with heap := h', toks := t' } := I.un (Un.write mu he k heo) (I.hok.write mu he k heo new)
theorem Inv.pins_of {pins' : List (Addr × Obj)} (I : Inv X pins σ H s) (h : ∀ p ∈ pins', s.heap.get? p.1 = some p.2 ∧ H p.1 = none ∧ p.1 ≠ X.env.locals ∧ p.1 ∉ X.fs ∧ ∀ v, p.2.data ≠ .cell v) : Inv X pins' σ H s :=
  ⟨I.ok, I.os, I.bare, I.base, I.loc, I.cell, I.free, I.freeC, fun p hp => (List.mem_append.mp hp).elim (fun z => I.pin p (List.mem_append_left _ z)) (h p), I.hok, I.len⟩

theorem nodup_ix {N : List Str} (hN : N.Nodup) {i j : Nat} {x : Str} (a : N[i]? = some x) (b : N[j]? = some x) : i = j := by
  obtain ⟨h1, e1⟩ := List.getElem?_eq_some_iff.mp a
  obtain ⟨h2, e2⟩ := List.getElem?_eq_some_iff.mp b
  exact (List.getElem_inj hN).mp (e1.trans e2.symm)

/-- a name is stored; what changed -/
theorem store_ok2 {M : Model} {A : Around} {E : Value → Shared → Prop} {i : Nat} {x : Str} {v : V} {u : Value} {Q : Unit → Shared → Prop} (I : Inv X pins σ H s) (hN : X.N.Nodup) (hi : X.N[i]? = some x) (hx : Loc X.env.scope x) (r : RelV v u)
    (h : ∀ s', Inv X pins (σ.set i (some v)) H s' → (∃ a, Heap.SameBut a s.heap s'.heap ∧ (a = X.env.locals ∨ X.env.cells.lookup x = some a)) → Q () s') (hf : X.fn x = true ∨ X.env.scope.names.lookup x = some .local := by first | exact .inl rfl | exact .inr rfl | assumption) : wpAny M A (storeName X.env x u) Q E s := by
  obtain ⟨m, hn, hl⟩ := id I.loc
  have hcls : (X.env.scope.kind == .class || (X.env.scope.kind == .module && X.env.locals != X.env.globals)) = false := by rw [I.ok.kind]; rfl
  have hiσ : i < σ.length := by rw [I.len]; exact (List.getElem?_eq_some_iff.mp hi).1
  have cne := I.cne
  have tracked : ∀ {a : Addr} {h' : Heap}, (∃ o, s.heap.get? a = some o ∧ H a = none) → Heap.SameBut a s.heap h' → HOk X.prog X.w H h' := fun {a h'} ha hs b ob e => by
    obtain ⟨_, _, hfree⟩ := ha
    refine (I.hok b ob e).stay (fun c w' hc q => (hs.2 c ?_).trans q) (fun _ q => q) fun _ _ q => q
    rintro rfl
    rcases hc with rfl | hc
    · rw [hfree] at e; cases e
    · rw [hfree] at hc; cases hc
  rcases hx with hk | hk
  · refine wpAny_storeName_local hk hn (fun h' hn' hs => ?_) hcls
    obtain ⟨oL, _, _, hoL, _⟩ := id hn
    refine h _ ⟨I.ok, I.os, I.bare, ⟨fun b o e n hb hx => ?_, fun b o e n hb hx => ?_, I.base.free, fun b o e hx => ?_, I.base.tups, I.base.frzs, I.base.tbls⟩, ⟨_, hn', fun j y v' e1 e2 e3 => ?_⟩, fun y c e => ?_, I.free, I.freeC, fun p hp => ?_, tracked ⟨oL, hoL, I.free⟩ hs, by simpa using I.len⟩ ⟨_, hs, .inl rfl⟩
    · exact (hs.2 b (Nat.ne_of_lt (Nat.lt_of_lt_of_le (Heap.lt_size e) I.ok.above))).trans (I.base.keep b o e n hb hx)
    · obtain ⟨sl, e1⟩ := I.base.slot b o e n hb hx
      exact ⟨sl, (hs.2 b (Nat.ne_of_lt (Nat.lt_of_lt_of_le (Heap.lt_size e) I.ok.above))).trans e1⟩
    · obtain ⟨o', e1⟩ := I.base.there b o e hx
      exact ⟨o', (hs.2 b (Nat.ne_of_lt (Nat.lt_of_lt_of_le (Heap.lt_size e) I.ok.above))).trans e1⟩
    · by_cases hj : j = i
      · subst hj
        rw [hi] at e1; cases e1
        rw [List.getElem?_set_self hiσ] at e2
        cases e2
        exact ⟨u, r, .inl ⟨hk, by simp⟩⟩
      · rw [List.getElem?_set_ne (Ne.symm hj)] at e2
        obtain ⟨u', r', q⟩ := hl j y v' e1 e2 e3
        refine ⟨u', r', ?_⟩
        rcases q with ⟨k, e⟩ | ⟨k, c, e, z⟩
        · refine .inl ⟨k, ?_⟩
          have : y ≠ x := fun e => hj (nodup_ix hN e1 (e ▸ hi))
          simp [this, e]
        · exact .inr ⟨k, c, e, z.sameBut hs (cne y c e)⟩
    · obtain ⟨w', z⟩ := I.cell y c e
      exact ⟨w', z.sameBut hs (cne y c e)⟩
    · obtain ⟨e, n, ne, nf, d⟩ := I.pin p hp
      exact ⟨(hs.2 p.1 ne).trans e, n, ne, nf, d⟩
  · have hfn : X.fn x = true := by
      rcases hf with z | z
      · exact z
      · rw [z] at hk; cases hk
    obtain ⟨c, hc⟩ := I.ok.has x (.inl hk)
    obtain ⟨w', z⟩ := I.cell x c hc
    refine wpAny_storeName_cell I.ok.kind hk hc z (fun h' hc' hs => ?_)
    obtain ⟨oc, hoc, hocd⟩ := id z
    refine h { s with heap := h' } ⟨I.ok, I.os, I.bare, ⟨fun b o e n hb hx => ?_, fun b o e n hb hx => ?_, I.base.free, fun b o e hx => ?_, I.base.tups, I.base.frzs, I.base.tbls⟩, ⟨m, hn.sameBut hs (Ne.symm (cne x c hc)), fun j y v' e1 e2 e3 => ?_⟩, fun y c' e => ?_, I.free, I.freeC, fun p hp => ?_, tracked ⟨oc, hoc, I.freeC x c hc⟩ hs, by simpa using I.len⟩ ⟨c, hs, .inr hc⟩
    · exact (hs.2 b (Nat.ne_of_lt (Nat.lt_of_lt_of_le (Heap.lt_size e) (I.ok.cab x c hfn hc)))).trans (I.base.keep b o e n hb hx)
    · obtain ⟨sl, e1⟩ := I.base.slot b o e n hb hx
      exact ⟨sl, (hs.2 b (Nat.ne_of_lt (Nat.lt_of_lt_of_le (Heap.lt_size e) (I.ok.cab x c hfn hc)))).trans e1⟩
    · obtain ⟨o', e1⟩ := I.base.there b o e hx
      exact ⟨o', (hs.2 b (Nat.ne_of_lt (Nat.lt_of_lt_of_le (Heap.lt_size e) (I.ok.cab x c hfn hc)))).trans e1⟩
    · by_cases hj : j = i
      · subst hj
        rw [hi] at e1; cases e1
        rw [List.getElem?_set_self hiσ] at e2
        cases e2
        exact ⟨u, r, .inr ⟨.inl hk, c, hc, hc'⟩⟩
      · rw [List.getElem?_set_ne (Ne.symm hj)] at e2
        obtain ⟨u', r', q⟩ := hl j y v' e1 e2 e3
        refine ⟨u', r', ?_⟩
        rcases q with q | ⟨k, c', e, z'⟩
        · exact .inl q
        · refine .inr ⟨k, c', e, z'.sameBut hs ?_⟩
          rintro rfl
          exact hj (nodup_ix hN e1 (I.ok.inj _ _ _ e hc ▸ hi))
    · by_cases hcc : c' = c
      · subst hcc; exact ⟨_, hc'⟩
      · obtain ⟨w2, z2⟩ := I.cell y c' e
        exact ⟨w2, z2.sameBut hs hcc⟩
    · obtain ⟨e, n, ne, nf, d⟩ := I.pin p hp
      refine ⟨(hs.2 p.1 ?_).trans e, n, ne, nf, d⟩
      intro q
      rw [q, hoc] at e
      have q' : oc = p.2 := Option.some.inj e
      exact d w' (by rw [← q']; exact hocd)
theorem store_ok {M : Model} {A : Around} {E : Value → Shared → Prop} {i : Nat} {x : Str} {v : V} {u : Value} {Q : Unit → Shared → Prop} (I : Inv X pins σ H s) (hN : X.N.Nodup) (hi : X.N[i]? = some x) (hx : Loc X.env.scope x) (r : RelV v u)
    (h : ∀ s', Inv X pins (σ.set i (some v)) H s' → Q () s') (hf : X.fn x = true ∨ X.env.scope.names.lookup x = some .local := by first | exact .inl rfl | exact .inr rfl | assumption) : wpAny M A (storeName X.env x u) Q E s :=
  store_ok2 I hN hi hx r (fun s' I' _ => h s' I') hf
/-- behind a call or a block, the state as it is -/
theorem Inv.call' {s' : Shared} {ch : List Addr} (I : Inv X pins σ H s) (ho : s'.os = s.os) (u : Un (frs X.stack) ch H H' s.heap s'.heap) (hok : HOk X.prog X.w H' s'.heap) (hg : AllBare s'.gens)
    (hch : ∀ b ∈ ch, (b ∈ X.ex ∨ X.s₀.heap.objs.size ≤ b) ∧ b ≠ X.env.locals ∧ (∀ x c, X.env.cells.lookup x = some c → c ≠ b) ∧ ∀ p ∈ X.pn ++ pins, p.1 ≠ b) : Inv X pins σ H' s' := by
  obtain ⟨h', g', d', t', o'⟩ := s'
  have e : o' = s.os := ho
  subst e
  exact I.call (g' := g') (t' := t') (d' := d') u hok hg hch
end

/-! ### the judgements -/
/-- an exception: its class, its own dict's address (where it has one), the abstract heap behind it -/
abbrev XK := Value → Option Addr → Hp → Prop
abbrev St := List (Option V)
abbrev VK := V → Hp → Prop
/-- an expression's reading; a test's; an argument list's -/
abbrev TE := St → Hp → VK → Prop
abbrev TT := St → Hp → (Bool → Hp → Prop) → Prop
abbrev TA := St → Hp → (List V → Hp → Prop) → Prop
/-- what is wanted behind a statement -/
structure Ends where
  nx : St → Hp → Prop
  rt : VK
  bk : St → Hp → Prop := fun _ _ => False
  ct : St → Hp → Prop := fun _ _ => False
abbrev TS := Ends → St → Hp → Prop

def EP (X : Cx) (pins : List (Addr × Obj)) (σ : St) (Q : VK) (u : Value) (s' : Shared) : Prop := ∃ v H', Inv X pins σ H' s' ∧ RelV v u ∧ Q v H'
def TP (X : Cx) (pins : List (Addr × Obj)) (σ : St) (Q : Bool → Hp → Prop) (b : Bool) (s' : Shared) : Prop := ∃ H', Inv X pins σ H' s' ∧ Q b H'
def AP (X : Cx) (pins : List (Addr × Obj)) (σ : St) (Q : List V → Hp → Prop) (us : List Value) (s' : Shared) : Prop := ∃ vs H', Inv X pins σ H' s' ∧ Vals vs us ∧ Q vs H'
def SP (X : Cx) (pins : List (Addr × Obj)) (D : Ends) (f : Flow) (s' : Shared) : Prop :=
  match f with
  | .next => ∃ σ' H', Inv X pins σ' H' s' ∧ D.nx σ' H'
  | .brk => ∃ σ' H', Inv X pins σ' H' s' ∧ D.bk σ' H'
  | .cont => ∃ σ' H', Inv X pins σ' H' s' ∧ D.ct σ' H'
  | .ret u => ∃ v σ' H', Inv X pins σ' H' s' ∧ RelV v u ∧ D.rt v H'

def PE (X : Cx) (e : Expr) (t : TE) : Prop :=
  ∀ (pins : List (Addr × Obj)) (s : Shared) (σ : St) (H : Hp) (Q : VK), Inv X pins σ H s → t σ H Q → wpAny (model X.prog X.w) X.A (eval e X.env) (EP X pins σ Q) X.xe s
def PT (X : Cx) (e : Expr) (t : TT) : Prop :=
  ∀ (pins : List (Addr × Obj)) (s : Shared) (σ : St) (H : Hp) (Q : Bool → Hp → Prop), Inv X pins σ H s → t σ H Q → wpAny (model X.prog X.w) X.A (isTrue e X.env (eval e X.env)) (TP X pins σ Q) X.xe s
/-- a test whatever its 'whole' is (and, or) -/
def PW (X : Cx) (e : Expr) (t : TT) : Prop :=
  ∀ (whole : Sem Value) (pins : List (Addr × Obj)) (s : Shared) (σ : St) (H : Hp) (Q : Bool → Hp → Prop), Inv X pins σ H s → t σ H Q → wpAny (model X.prog X.w) X.A (isTrue e X.env whole) (TP X pins σ Q) X.xe s
theorem PW.pt {X : Cx} {e : Expr} {t : TT} (h : PW X e t) : PT X e t := h _
/-- an argument list (no star), from the left -/
def PA (X : Cx) (es : List Expr) (t : TA) : Prop :=
  ∀ (pos : Pos) (pins : List (Addr × Obj)) (s : Shared) (σ : St) (H : Hp) (Q : List V → Hp → Prop), Inv X pins σ H s → t σ H Q → wpAny (model X.prog X.w) X.A (spliced (backTo pos (starEach es X.env))) (AP X pins σ Q) X.xe s
def PS (X : Cx) (st : Stmt) (t : TS) : Prop :=
  ∀ (pins : List (Addr × Obj)) (s : Shared) (σ : St) (H : Hp) (D : Ends), Inv X pins σ H s → t D σ H → wpAny (model X.prog X.w) X.A (exec st X.env) (SP X pins D) X.xe s
def PSs (X : Cx) (st : List Stmt) (t : TS) : Prop :=
  ∀ (pins : List (Addr × Obj)) (s : Shared) (σ : St) (H : Hp) (D : Ends), Inv X pins σ H s → t D σ H → wpAny (model X.prog X.w) X.A (execs st X.env) (SP X pins D) X.xe s
/-- weaken the end -/
theorem thn {α : Type} {t : Sem α} {Q Q' : α → Shared → Prop} {M : Model} {A : Around} {E : Value → Shared → Prop} {s : Shared} (h : wpAny M A t Q E s) (hQ : ∀ a s, Q a s → Q' a s) : wpAny M A t Q' E s := wpAny_mono h hQ fun _ _ x => x
end L2

namespace L2
open PySem PySem.Spec PyProof.Rows
section
variable {X : Cx}

/-- two expressions in a row -/
theorem bin {a b : Expr} {ta tb : TE} (ha : PE X a ta) (hb : PE X b tb) {pins : List (Addr × Obj)} {s : Shared} {σ : St} {H : Hp} {R : V → V → Hp → Prop} (I : Inv X pins σ H s) (h : ta σ H fun x H1 => tb σ H1 fun y H2 => R x y H2)
    {α : Type} {Q : α → Shared → Prop} {f : Value → Value → Sem α}
    (hf : ∀ v u s2 x y H2, Inv X pins σ H2 s2 → RelV x v → RelV y u → R x y H2 → wpAny (model X.prog X.w) X.A (f v u) Q X.xe s2) :
    wpAny (model X.prog X.w) X.A (eval a X.env) (fun v s₁ => wpAny (model X.prog X.w) X.A (eval b X.env) (fun u s₂ => wpAny (model X.prog X.w) X.A (f v u) Q X.xe s₂) X.xe s₁) X.xe s := by
  refine thn (ha pins s σ H _ I h) fun v s1 ⟨x, H1, I1, r1, q1⟩ => ?_
  refine thn (hb pins s1 σ H1 _ I1 q1) fun u s2 ⟨y, H2, I2, r2, q2⟩ => ?_
  exact hf v u s2 x y H2 I2 r1 r2 q2

/-! ### names and constants -/
def tVar (i : Nat) : TE := fun σ H Q => ∃ v, σ[i]? = some (some v) ∧ Q v H
def tC (v : V) : TE := fun _ H Q => Q v H
theorem pe_var {i : Nat} {x : Str} {pos : Pos} (hN : X.N[i]? = some x) (hv : Vis X.env.scope x) (hd : (x == ("__debug__" : Str)) = false := by decide) (hcd : (x == ("__classdict__" : Str)) = false := by decide) : PE X (.Name x pos) (tVar i) := by
  intro pins s σ H Q I h
  obtain ⟨v, e, h⟩ := h
  obtain ⟨m, hn, hl⟩ := I.loc
  obtain ⟨u, r, l⟩ := hl i x v hN e hv
  have fin : EP X pins σ Q u s := ⟨v, H, I, r, h⟩
  rcases l with ⟨hk, hm⟩ | ⟨hk, c, hc, hcell⟩
  · exact wpAny_Name (wpAny_loadName_local I.ok.kind hk hn hm fin) hd
  · rcases hk with hk | hk
    · exact wpAny_Name (wpAny_loadName_cell I.ok.kind hk hc hcell fin) hd
    · exact wpAny_Name (wpAny_loadName_free I.ok.kind hk hc hcell fin hcd) hd
theorem pe_int {i j pos} : PE X (.Constant (.int i) j pos) (tC (.int i)) := fun _ _ _ H _ I h => wpAny_Constant_int ⟨.int i, H, I.tok _, ⟨_, rfl⟩, h⟩
theorem pe_bl {b j pos} : PE X (.Constant (.bool b) j pos) (tC (.bl b)) := fun _ _ _ H _ I h => Constant_bool ⟨.bl b, H, I, rfl, h⟩
theorem pe_non {j pos} : PE X (.Constant .none j pos) (tC .non) := fun _ _ _ H _ I h => Constant_none ⟨.non, H, I, rfl, h⟩
theorem pe_str {x j pos} : PE X (.Constant (.str x) j pos) (tC (.str x)) := fun _ _ _ H _ I h => Calls.Constant_str ⟨.str x, H, I.tok _, ⟨_, rfl⟩, h⟩

/-- a global name of the def -/
def Gl (X : Cx) (x : Str) : Prop := X.env.kindOf x = some .globalImplicit
theorem ld_glob {E : Value → Shared → Prop} {pins : List (Addr × Obj)} {s : Shared} {σ : St} {H : Hp} {x : Str} {u : Value} {pos : Pos} {Q : Value → Shared → Prop} (I : Inv X pins σ H s) (hg : Gl X x) (hm : X.mg x = some u) (h : Q u s)
    (hd : (x == ("__debug__" : Str)) = false := by decide) : wpAny (model X.prog X.w) X.A (eval (.Name x pos) X.env) Q E s :=
  Calls.Name_function_global I.ok.kind hg (Calls.loadGlobal_global (by rw [I.ok.glob]; exact I.mod.glob.keeps I.bk) hm h) hd
theorem ld_blt {E : Value → Shared → Prop} {pins : List (Addr × Obj)} {s : Shared} {σ : St} {H : Hp} {x : Str} {u : Value} {pos : Pos} {Q : Value → Shared → Prop} (I : Inv X pins σ H s) (hg : Gl X x) (hm : X.mg x = none) (hv : bootBuiltins x = some u) (h : Q u s)
    (hn : x ≠ "__name__" := by decide) (hd : (x == ("__debug__" : Str)) = false := by decide) : wpAny (model X.prog X.w) X.A (eval (.Name x pos) X.env) Q E s := by
  obtain ⟨mb, h1, h2⟩ := I.mod.blt
  exact Calls.Name_function_global I.ok.kind hg (Calls.loadGlobal_builtin (by rw [I.ok.glob]; exact I.mod.glob.keeps I.bk) hm (by rw [I.ok.blt]; exact h1.keeps I.bk) ((h2 x hn).trans hv) h) hd
/-- a module's constant, a class, a function, as a value -/
theorem pe_glob {x : Str} {v : V} {u : Value} {pos : Pos} (hg : Gl X x) (hm : X.mg x = some u) (r : RelV v u) (hd : (x == ("__debug__" : Str)) = false := by decide) : PE X (.Name x pos) (tC v) :=
  fun _ _ _ H _ I h => ld_glob I hg hm ⟨v, H, I, r, h⟩ hd
theorem pe_bltn {x : Str} {v : V} {u : Value} {pos : Pos} (hg : Gl X x) (hm : X.mg x = none) (hv : bootBuiltins x = some u) (r : RelV v u) (hn : x ≠ "__name__" := by decide) (hd : (x == ("__debug__" : Str)) = false := by decide) : PE X (.Name x pos) (tC v) :=
  fun _ _ _ H _ I h => ld_blt I hg hm hv ⟨v, H, I, r, h⟩ hn hd

/-! ### arithmetic -/
variable {a b : Expr} {ta tb : TE} {pos : Pos}

/-! ### comparisons -/
def PC (X : Cx) (op : CmpOp) (a b : Expr) (t : TE) : Prop :=
  ∀ (pins : List (Addr × Obj)) (s : Shared) (σ : St) (H : Hp) (Q : VK), Inv X pins σ H s → t σ H Q →
    wpAny (model X.prog X.w) X.A (eval a X.env) (fun v s₁ => wpAny (model X.prog X.w) X.A (eval b X.env) (fun u s₂ => wpAny (model X.prog X.w) X.A (compareOp op v u) (EP X pins σ Q) X.xe s₂) X.xe s₁) X.xe s
/-- a comparison as a value, as a test -/
def tB (t : TE) : TT := fun σ H Q => t σ H fun x H1 => ∃ c, x = .bl c ∧ Q c H1
theorem pt_cmp {op : CmpOp} {t : TE} (h : PC X op a b t) (h1 : behindInMarks op b = false := by first | exact nobehind _ (by decide) (by decide) | rfl) : PT X (.Compare a [op] [b] pos) (tB t) := by
  intro pins s σ H Q I hw
  refine wpAny_isTrue_Compare1 (thn (h pins s σ H _ I hw) fun v s1 h1 => thn h1 fun u s2 h2 => thn h2 fun c s3 ⟨x, H1, I1, r1, q1⟩ => ?_) h1
  obtain ⟨d, rfl, q⟩ := q1
  cases r1
  exact wpAny_truthy_bool ⟨H1, I1, q⟩
/-- an expression whose value is a bool, as a test -/
theorem pt_val {e : Expr} {t : TE} (h : PE X e t) (he : ∀ whole, isTrue e X.env whole = (do let v ← whole; standAt e.pos; holding [v] (truthy v)) := by intro _; rfl) : PT X e (tB t) := by
  intro pins s σ H Q I hw
  refine isTrue_plain (thn (h pins s σ H _ I hw) fun v s1 ⟨x, H1, I1, r1, q1⟩ => ?_) (he _)
  obtain ⟨d, rfl, q⟩ := q1
  cases r1
  exact wpAny_truthy_bool ⟨H1, I1, q⟩

/-! ### and, or, not -/
variable {tA tB' : TT} {rest : List Expr}
def tAnd (t u : TT) : TT := fun σ H Q => t σ H fun c H1 => if c = true then u σ H1 Q else Q false H1
def tOr (t u : TT) : TT := fun σ H Q => t σ H fun c H1 => if c = true then Q true H1 else u σ H1 Q
def tNot (t : TT) : TT := fun σ H Q => t σ H fun c H1 => Q (!c) H1
theorem pw_and1 (ha : PT X a tA) : PW X (.BoolOp .And [a] pos) tA := by
  intro wh pins s σ H Q I h
  refine isTrue_and (thn (ha pins s σ H Q I h) fun c s1 e => ?_)
  cases c with
  | true => exact isTrue_and_nil e
  | false => exact e
theorem pw_or1 (ha : PT X a tA) : PW X (.BoolOp .Or [a] pos) tA := by
  intro wh pins s σ H Q I h
  refine isTrue_or (thn (ha pins s σ H Q I h) fun c s1 e => ?_)
  cases c with
  | false => exact isTrue_or_nil e
  | true => exact e
theorem pw_and (ha : PT X a tA) (hb : PW X (.BoolOp .And (b :: rest) pos) tB') : PW X (.BoolOp .And (a :: b :: rest) pos) (tAnd tA tB') := by
  intro wh pins s σ H Q I h
  refine isTrue_and (thn (ha pins s σ H _ I h) fun c s1 ⟨H1, I1, q1⟩ => ?_)
  cases c with
  | true => exact hb wh pins s1 σ H1 Q I1 q1
  | false => exact ⟨H1, I1, q1⟩
theorem pw_or (ha : PT X a tA) (hb : PW X (.BoolOp .Or (b :: rest) pos) tB') : PW X (.BoolOp .Or (a :: b :: rest) pos) (tOr tA tB') := by
  intro wh pins s σ H Q I h
  refine isTrue_or (thn (ha pins s σ H _ I h) fun c s1 ⟨H1, I1, q1⟩ => ?_)
  cases c with
  | true => exact ⟨H1, I1, q1⟩
  | false => exact hb wh pins s1 σ H1 Q I1 q1
theorem pt_not (ha : PT X a tA) : PT X (.UnaryOp .Not a pos) (tNot tA) := by
  intro pins s σ H Q I h
  exact isTrue_not (ha pins s σ H (fun c H1 => Q (!c) H1) I h)
/-- .. as values (bools) -/
def tAndV (ta tb : TE) : TE := fun σ H Q => ta σ H fun x H1 => ∃ c, x = .bl c ∧ if c = true then tb σ H1 Q else Q (.bl false) H1
def tNotV (ta : TE) : TE := fun σ H Q => ta σ H fun x H1 => ∃ c, x = .bl c ∧ Q (.bl (!c)) H1
theorem pe_one {op} {t : TE} (h : PE X a t) : PE X (.BoolOp op [a] pos) t := fun pins s σ H Q I hw => BoolOp_one (h pins s σ H Q I hw)
theorem pe_and (ha : PE X a ta) (hb : PE X (.BoolOp .And (b :: rest) pos) tb) : PE X (.BoolOp .And (a :: b :: rest) pos) (tAndV ta tb) := by
  intro pins s σ H Q I h
  refine BoolOp_and (thn (ha pins s σ H _ I h) fun v s1 ⟨x, H1, I1, r1, q1⟩ => ?_)
  obtain ⟨c, rfl, q1⟩ := q1
  cases r1
  refine wpAny_truthy_bool ?_
  cases c with
  | true => exact hb pins s1 σ H1 Q I1 q1
  | false => exact ⟨.bl false, H1, I1, rfl, q1⟩
theorem pe_not (ha : PE X a ta) : PE X (.UnaryOp .Not a pos) (tNotV ta) := by
  intro pins s σ H Q I h
  refine UnaryOp_ (thn (ha pins s σ H _ I h) fun v s1 ⟨x, H1, I1, r1, q1⟩ => ?_)
  obtain ⟨c, rfl, q1⟩ := q1
  cases r1
  exact not_of (wpAny_truthy_bool ⟨.bl (!c), H1, I1, rfl, q1⟩)
end
end L2

namespace L2
open PySem PySem.Spec PyProof.Rows

/-! ### a list, a tuple that is read: tracked, frozen, or an object of the module -/
def SqL (K : PySem.W.Frag) (H : Hp) (a : Addr) (xs : List V) : Prop :=
  Rd H a (.lst xs) ∨
    ∃ (o : Obj) (its : Array Value) (n : Nat), K.lookup a = some o ∧ o.cls = .type "list" ∧ o.dict = none ∧ o.data = .seq its n ∧ its.size ≤ sizeLine ∧ Vals xs its.toList
def SqT (K : PySem.W.Frag) (H : Hp) (a : Addr) (xs : List V) : Prop :=
  Rd H a (.tup xs) ∨
    ∃ (o : Obj) (its : Array Value) (n : Nat), K.lookup a = some o ∧ o.cls = .type "tuple" ∧ o.data = .seq its n ∧ its.size ≤ sizeLine ∧ Vals xs its.toList
def absV : Value → Option V
  | .none => some .non
  | .bool b => some (.bl b)
  | .int i _ => some (.int i)
  | .str x _ => some (.str x)
  | .bytes b _ => some (.byt b)
  | .float b _ => some (.flt b)
  | .ref a => some (.ref a)
  | .type n => some (.ty n)
  | _ => none
theorem RelV.abs {x : V} {u : Value} (r : RelV x u) : absV u = some x := by
  cases x with
  | non => cases r; rfl
  | bl _ => cases r; rfl
  | int _ => obtain ⟨t, rfl⟩ := r; rfl
  | str _ => obtain ⟨t, rfl⟩ := r; rfl
  | byt _ => obtain ⟨t, rfl⟩ := r; rfl
  | flt _ => obtain ⟨t, rfl⟩ := r; rfl
  | ref _ => cases r; rfl
  | ty _ => cases r; rfl
theorem RelV.inj {x y : V} {u : Value} (r : RelV x u) (q : RelV y u) : x = y := Option.some.inj (r.abs.symm.trans q.abs)
theorem Vals.inj : ∀ {xs ys : List V} {us : List Value}, Vals xs us → Vals ys us → xs = ys
  | _, _, _, .nil, .nil => rfl
  | _, _, _, .cons r t, .cons r' t' => by rw [r.inj r', Vals.inj t t']
section
variable {X : Cx} {pins : List (Addr × Obj)} {σ : St} {H : Hp} {s : Shared} {a : Addr} {xs ys : List V}
theorem SqL.of {K : PySem.W.Frag} (h : H a = some (.lst xs)) : SqL K H a xs := .inl (.inl h)
theorem SqT.of {K : PySem.W.Frag} (h : H a = some (.tup xs)) : SqT K H a xs := .inl (.inl h)
theorem Inv.list (I : Inv X pins σ H s) (h : SqL X.K H a xs) : ∃ its : List Value, Vals xs its ∧ PlainL s.heap a its.toArray ∧ xs.length ≤ sizeLine := by
  rcases h with h | ⟨o, its, n, hk, hc, hd, hs, hz, r⟩
  · obtain ⟨z, its, n, r, e⟩ := h.ok I.hok
    exact ⟨its, r, ⟨_, n, e, rfl, rfl, rfl⟩, z⟩
  · refine ⟨its.toList, r, ⟨o, n, I.kIn a o hk, hc, hd, by simpa using hs⟩, ?_⟩
    have e := r.length
    simp only [Array.length_toList] at e
    omega
theorem Inv.tuple (I : Inv X pins σ H s) (h : SqT X.K H a xs) : ∃ its : List Value, Vals xs its ∧ IsTup s.heap a its.toArray ∧ xs.length ≤ sizeLine := by
  rcases h with h | ⟨o, its, n, hk, hc, hs, hz, r⟩
  · obtain ⟨z, its, r, p⟩ := h.ok I.hok
    exact ⟨its, r, p, z⟩
  · refine ⟨its.toList, r, ⟨o, I.kIn a o hk, hc, n, by simpa using hs⟩, ?_⟩
    have e := r.length
    simp only [Array.length_toList] at e
    omega
theorem Inv.list_inj (I : Inv X pins σ H s) (h : SqL X.K H a xs) (h' : SqL X.K H a ys) : xs = ys := by
  obtain ⟨its, r, ⟨o, n, e, _, _, d⟩, _⟩ := I.list h
  obtain ⟨its', r', ⟨o', n', e', _, _, d'⟩, _⟩ := I.list h'
  rw [e] at e'; cases e'
  rw [d] at d'
  injection d' with d1 _
  have : its = its' := by simpa using congrArg Array.toList d1
  subst this
  exact r.inj r'
theorem Inv.tuple_inj (I : Inv X pins σ H s) (h : SqT X.K H a xs) (h' : SqT X.K H a ys) : xs = ys := by
  obtain ⟨its, r, ⟨o, e, _, n, d⟩, _⟩ := I.tuple h
  obtain ⟨its', r', ⟨o', e', _, n', d'⟩, _⟩ := I.tuple h'
  rw [e] at e'; cases e'
  rw [d] at d'
  injection d' with d1 _
  have : its = its' := by simpa using congrArg Array.toList d1
  subst this
  exact r.inj r'
end

/-! ### another wish about exceptions -/
abbrev Cx.wish (X : Cx) (E : Value → Shared → Prop) : Cx := { X with xe := E }
/-- no exception leaves -/
abbrev Cx.nox (X : Cx) : Cx := X.wish fun _ _ => False
theorem Cx.Ok.wish {X : Cx} (ok : X.Ok) (E : Value → Shared → Prop) : (X.wish E).Ok :=
  ⟨ok.mod, ok.kind, ok.glob, ok.blt, ok.above, ok.inj, ok.has, ok.cab, ok.hd, ok.frames, ok.stk, ok.exf, ok.bs, ok.bsz, ok.noex, ok.exfs, ok.funs, ok.frf⟩
theorem Cx.Ok.unwish {X : Cx} {E : Value → Shared → Prop} (ok : (X.wish E).Ok) : X.Ok :=
  ⟨ok.mod, ok.kind, ok.glob, ok.blt, ok.above, ok.inj, ok.has, ok.cab, ok.hd, ok.frames, ok.stk, ok.exf, ok.bs, ok.bsz, ok.noex, ok.exfs, ok.funs, ok.frf⟩
section
variable {X : Cx} {pins : List (Addr × Obj)} {σ : St} {H : Hp} {s : Shared} {E : Value → Shared → Prop}
theorem Inv.wish (I : Inv X pins σ H s) (E : Value → Shared → Prop) : Inv (X.wish E) pins σ H s := ⟨I.ok.wish E, I.os, I.bare, I.base, I.loc, I.cell, I.free, I.freeC, I.pin, I.hok, I.len⟩
theorem Inv.unwish (I : Inv (X.wish E) pins σ H s) : Inv X pins σ H s := ⟨I.ok.unwish, I.os, I.bare, I.base, I.loc, I.cell, I.free, I.freeC, I.pin, I.hok, I.len⟩
theorem SP.unwish {D : Ends} {f : Flow} {s' : Shared} (h : SP (X.wish E) pins D f s') : SP X pins D f s' := by
  cases f with
  | next => obtain ⟨σ', H', I, q⟩ := h; exact ⟨σ', H', I.unwish, q⟩
  | brk => obtain ⟨σ', H', I, q⟩ := h; exact ⟨σ', H', I.unwish, q⟩
  | cont => obtain ⟨σ', H', I, q⟩ := h; exact ⟨σ', H', I.unwish, q⟩
  | ret u => obtain ⟨v, σ', H', I, r, q⟩ := h; exact ⟨v, σ', H', I.unwish, r, q⟩
theorem PSs.nox {st : List Stmt} {t : TS} (h : PSs X.nox st t) : PSs X st t := fun pins s σ H D I hw =>
  wpAny_mono (h pins s σ H D (I.wish _) hw) (fun _ _ q => q.unwish) fun _ _ z => False.elim z
end

/-! ### blocks and small statements -/
section
variable {X : Cx} {st : Stmt} {rest : List Stmt} {t u : TS} {e : Expr} {te : TE} {pos : Pos}
def tNext : TS := fun D σ H => D.nx σ H
def tSeq (t u : TS) : TS := fun D σ H => t { D with nx := u D } σ H
theorem pss_nil : PSs X [] tNext := fun _ _ σ H _ I h => wpAny_execs_nil ⟨σ, H, I, h⟩
theorem pss_cons (h1 : PS X st t) (h2 : PSs X rest u) : PSs X (st :: rest) (tSeq t u) := by
  intro pins s σ H D I h
  refine wpAny_execs_cons (thn (h1 pins s σ H { D with nx := u D } I h) fun f s1 q => ?_)
  cases f with
  | next =>
    obtain ⟨σ', H', I', q⟩ := q
    exact h2 pins s1 σ' H' D I' q
  | ret v => exact q
  | brk => exact q
  | cont => exact q
theorem pss_one (h1 : PS X st t) : PSs X [st] t := by
  intro pins s σ H D I h
  refine wpAny_execs_cons (thn (h1 pins s σ H D I h) fun f s1 q => ?_)
  cases f with
  | next => exact wpAny_execs_nil q
  | ret v => exact q
  | brk => exact q
  | cont => exact q
/-- in a def's body nothing is shown -/
theorem Inv.quiet {pins : List (Addr × Obj)} {σ : St} {H : Hp} {s : Shared} (I : Inv X pins σ H s) : interactive X.env = false := by simp [interactive, I.ok.kind]
/-- an expression whose value is dropped -/
def tDrop (te : TE) : TS := fun D σ H => te σ H fun _ H1 => D.nx σ H1
theorem ps_expr (he : PE X e te) (hs : swapsWith e none pos.line X.env = pure false := by rfl) : PS X (.Expr e pos) (tDrop te) := by
  intro pins s σ H D I h
  exact wpAny_Expr_any (thn (he pins s σ H _ I h) fun v s1 ⟨x, H1, I1, r1, q1⟩ => ⟨σ, H1, I1, q1⟩) I.quiet hs
def tRet (te : TE) : TS := fun D σ H => te σ H D.rt
theorem ps_ret (he : PE X e te) : PS X (.Return (some e) pos) (tRet te) := by
  intro pins s σ H D I h
  exact wpAny_Return_some (thn (he pins s σ H _ I h) fun v s1 ⟨x, H1, I1, r1, q1⟩ => ⟨x, σ, H1, I1, r1, q1⟩)
def tIfS (c : TT) (t u : TS) : TS := fun D σ H => c σ H fun b H1 => if b = true then t D σ H1 else u D σ H1
theorem ps_if {c : Expr} {a b : List Stmt} {tc : TT} (hc : PT X c tc) (ha : PSs X a t) (hb : PSs X b u) : PS X (.If c a b pos) (tIfS tc t u) := by
  intro pins s σ H D I h
  refine wpAny_If (thn (hc pins s σ H _ I h) fun d s1 ⟨H1, I1, q1⟩ => ?_)
  cases d with
  | true => exact ha pins s1 σ H1 D I1 q1
  | false => exact hb pins s1 σ H1 D I1 q1
/-- code that the proof never comes to -/
def tNever : TS := fun _ _ _ => False
theorem ps_never : PS X st tNever := fun _ _ _ _ _ _ h => h.elim
end

/-! ### targets -/
abbrev TG := V → St → Hp → (St → Hp → Prop) → Prop
abbrev TGs := List V → St → Hp → (St → Hp → Prop) → Prop
def PG (X : Cx) (target : Expr) (t : TG) : Prop :=
  ∀ (pins : List (Addr × Obj)) (s : Shared) (σ : St) (H : Hp) (v : V) (u : Value) (Q : St → Hp → Prop), Inv X pins σ H s → RelV v u → t v σ H Q →
    wpAny (model X.prog X.w) X.A (assign target X.env u) (fun _ s' => ∃ σ' H', Inv X pins σ' H' s' ∧ Q σ' H') X.xe s
/-- several targets, one after another -/
def PGs (X : Cx) (ts : List Expr) (t : TGs) : Prop :=
  ∀ (pins : List (Addr × Obj)) (s : Shared) (σ : St) (H : Hp) (vs : List V) (us : List Value) (Q : St → Hp → Prop), Inv X pins σ H s → Vals vs us → t vs σ H Q →
    wpAny (model X.prog X.w) X.A (assignInOrder ((assignEach ts X.env).map (·.2)) us) (fun _ s' => ∃ σ' H', Inv X pins σ' H' s' ∧ Q σ' H') X.xe s
/-- o[i] = v, by values -/
abbrev TSet := V → V → V → Hp → (Hp → Prop) → Prop
def PSet (X : Cx) (t : TSet) : Prop :=
  ∀ (pins : List (Addr × Obj)) (s : Shared) (σ : St) (H : Hp) (o i v : V) (ov iv u : Value) (Q : Hp → Prop), Inv X pins σ H s → RelV o ov → RelV i iv → RelV v u → t o i v H Q →
    wpAny (model X.prog X.w) X.A (setItem ov iv u) (fun _ s' => ∃ H', Inv X pins σ H' s' ∧ Q H') X.xe s
section
variable {X : Cx} {pos : Pos}
def gName (i : Nat) : TG := fun v σ H Q => Q (σ.set i (some v)) H
theorem pg_name {i : Nat} {x : Str} (hN : X.N.Nodup) (hi : X.N[i]? = some x) (hx : Loc X.env.scope x) (hf : X.fn x = true ∨ X.env.scope.names.lookup x = some .local := by first | exact .inl rfl | exact .inr rfl | assumption) : PG X (.Name x pos) (gName i) := by
  intro pins s σ H v u Q I r h
  exact wpAny_assign_Name (store_ok I hN hi hx r (fun s' I' => ⟨_, H, I', h⟩) hf)
def gNil : TGs := fun vs σ H Q => vs = [] ∧ Q σ H
def gCons (t : TG) (u : TGs) : TGs := fun vs σ H Q => ∃ v r, vs = v :: r ∧ t v σ H fun σ' H' => u r σ' H' Q
theorem pgs_nil : PGs X [] gNil := by
  intro pins s σ H vs us Q I r h
  obtain ⟨e, h⟩ := h
  subst e
  cases r
  exact assignInOrder_nil ⟨σ, H, I, h⟩
theorem pgs_cons {e : Expr} {es : List Expr} {t : TG} {u : TGs} (h1 : PG X e t) (h2 : PGs X es u)
    (hs : (assignEach (e :: es) X.env).map (·.2) = assign e X.env :: (assignEach es X.env).map (·.2) := by rfl) : PGs X (e :: es) (gCons t u) := by
  intro pins s σ H vs us Q I r h
  obtain ⟨v, vr, e1, h⟩ := h
  subst e1
  cases r with
  | cons r rr =>
    rw [hs]
    refine assignInOrder_cons (thn (h1 pins s σ H _ _ _ I r h) fun _ s1 ⟨σ1, H1, I1, q1⟩ => ?_)
    exact h2 pins s1 σ1 H1 _ _ Q I1 rr q1
/-- (a, b, ..) = a tuple of that length -/
def gTup (K : PySem.W.Frag) (n : Nat) (t : TGs) : TG := fun v σ H Q => ∃ a xs, v = .ref a ∧ SqT K H a xs ∧ xs.length = n ∧ t xs σ H Q
theorem pg_tup {es : List Expr} {k : Nat} {t : TGs} {n : Nat} (hc : X.calm = true) (h : PGs X es t)
    (hn : (assignEach es X.env).length = n := by rfl) (hst : (assignEach es X.env).findIdx? (·.1) = none := by rfl) : PG X (.Tuple es k pos) (gTup X.K n t) := by
  intro pins s σ H v u Q I r hw
  obtain ⟨a, xs, e1, hq, hl, hw⟩ := hw
  subst e1
  cases r
  obtain ⟨its, rv, ht, hz⟩ := I.tuple hq
  refine assign_Tuple_tuple (I.ok.hd hc) ht (by simp [hn, ← hl, rv.length]) hst fun h' hx => ?_
  have I1 : Inv X pins σ H { s with heap := h' } := I.kept (t' := s.toks) fun b o e => hx b o (Nat.ne_of_lt (Heap.lt_size e)) e
  exact h pins _ σ H xs _ Q I1 (by simpa using rv) hw
/-- o[i] = .. -/
def gSub (to ti : TE) (t : TSet) : TG := fun v σ H Q => to σ H fun o H1 => ti σ H1 fun i H2 => t o i v H2 fun H3 => Q σ H3
theorem pg_sub {o i : Expr} {to ti : TE} {t : TSet} (ho : PE X o to) (hi : PE X i ti) (hs : PSet X t)
    (ha : ∀ v, assign (.Subscript o i pos) X.env v = (do
      let ov ← holding [v] (eval o X.env)
      let iv ← holding [v, ov] (eval i X.env)
      standAt pos
      holding [v, ov, iv] (setItem ov iv v)
      release [v, ov, iv] []) := by intro _; rfl) : PG X (.Subscript o i pos) (gSub to ti t) := by
  intro pins s σ H v u Q I r h
  rw [ha]
  refine wpAny_bind (wpAny_holding (thn (ho pins s σ H _ I h) fun ov s1 ⟨x, H1, I1, r1, q1⟩ => ?_))
  refine wpAny_bind (wpAny_holding (thn (hi pins s1 σ H1 _ I1 q1) fun iv s2 ⟨y, H2, I2, r2, q2⟩ => ?_))
  refine wpAny_bind (wpAny_standAt (wpAny_bind (wpAny_holding (thn (hs pins s2 σ H2 x y v ov iv u _ I2 r1 r2 r q2) fun _ s3 ⟨H3, I3, q3⟩ => ?_))))
  exact wpAny_release ⟨σ, H3, I3, q3⟩
/-- target = value -/
def tAsg (te : TE) (g : TG) : TS := fun D σ H => te σ H fun x H1 => g x σ H1 D.nx
theorem ps_asg {tg e : Expr} {te : TE} {g : TG} (he : PE X e te) (hg : PG X tg g) (hs : swapsWithSole [tg] e pos.line X.env = pure false := by rfl) (hw : swappedStores [tg] e X.env = pure none := by rfl)
    (h1 : (assignEach [tg] X.env).map (·.2) = [assign tg X.env] := by rfl) : PS X (.Assign [tg] e pos) (tAsg te g) := by
  intro pins s σ H D I h
  refine wpAny_Assign_stores (thn (he pins s σ H _ I h) fun v s1 ⟨x, H1, I1, r1, q1⟩ => ?_) hs hw
  rw [h1]
  exact thn (hg pins s1 σ H1 x v _ I1 r1 q1) fun _ s2 q => q
/-- name = value -/
theorem ps_set {i : Nat} {x : Str} {e : Expr} {te : TE} {pos' : Pos} (hN : X.N.Nodup) (hi : X.N[i]? = some x) (hx : Loc X.env.scope x) (he : PE X e te) (hs : swapsWith e (some (.Name x pos')) pos.line X.env = pure false := by rfl) (hf : X.fn x = true ∨ X.env.scope.names.lookup x = some .local := by first | exact .inl rfl | exact .inr rfl | assumption) :
    PS X (.Assign [.Name x pos'] e pos) (tAsg te (gName i)) := by
  intro pins s σ H D I h
  refine wpAny_Assign_Name (thn (he pins s σ H _ I h) fun v s1 ⟨y, H1, I1, r1, q1⟩ => ?_) hs
  exact store_ok I1 hN hi hx r1 (fun s2 I2 => ⟨_, H1, I2, q1⟩) hf
/-- a, b = x, y with plain local names: stored from the right; the pair itself is not tracked (the opening rows as in PyProof/Rows/TupAssign.lean:23) -/
def tPar (i j : Nat) (ta : TA) : TS := fun D σ H => ta σ H fun vs H1 => ∃ v w, vs = [v, w] ∧ D.nx ((σ.set i (some v)).set j (some w)) H1
theorem ps_par {i j : Nat} {x y : Str} {a b : Expr} {ta : TA} {px py pt : Pos} {kt k2 pt2} (hc : X.calm = true) (hN : X.N.Nodup) (hi : X.N[i]? = some x) (hj : X.N[j]? = some y) (hij : i ≠ j)
    (hx : X.env.scope.names.lookup x = some .local) (hy : X.env.scope.names.lookup y = some .local) (ha : PA X [a, b] ta)
    (hw : swappedStores [.Tuple [.Name x px, .Name y py] kt pt] (.Tuple [a, b] k2 pt2) X.env = pure (some [x, y]))
    (hs : swapsWithSole [.Tuple [.Name x px, .Name y py] kt pt] (.Tuple [a, b] k2 pt2) pos.line X.env = pure false := by rfl) :
    PS X (.Assign [.Tuple [.Name x px, .Name y py] kt pt] (.Tuple [a, b] k2 pt2) pos) (tPar i j ta) := by
  intro pins s σ H D I h
  rw [exec_Assign_arm]
  refine wpAny_bind (wpAny_standAt ?_)
  rw [hs]
  refine wpAny_bind (wpAny_pure ?_)
  rw [if_neg (by decide)]
  refine wpAny_bind (Tuple_ (thn (ha _ pins s σ H _ I h) fun us s1 ⟨vs, H1, I1, r1, q1⟩ => ?_))
  obtain ⟨v, w, e1, q1⟩ := q1
  subst e1
  obtain ⟨u1, u2, rfl, rv, rw'⟩ : ∃ u1 u2, us = [u1, u2] ∧ RelV v u1 ∧ RelV w u2 := by
    cases r1 with
    | cons p q =>
      cases q with
      | cons p' q' =>
        cases q'
        exact ⟨_, _, rfl, p, p'⟩
  refine wpAny_newObj_type ?_ (by show 2 ≤ sizeLine; decide)
  have I2 : Inv X pins σ H1 { s1 with heap := s1.heap.push { cls := .type "tuple", data := .seq [u1, u2].toArray } } := I1.kept (t' := s1.toks) fun b o e => Heap.get?_push_of_some _ e
  rw [hw]
  refine wpAny_bind (wpAny_pure ?_)
  show wpAny (model X.prog X.w) X.A (do rule "assign.swapped-stores"; let items ← unpackItems (.ref s1.heap.objs.size) 2 none; assignInOrder [fun v => bindName X.env y v, fun v => bindName X.env x v] items.reverse; pure Flow.next) _ _ _
  refine wpAny_bind (wpAny_rule (wpAny_bind (unpackItems_tuple (items := #[u1, u2]) (I.ok.hd hc) (IsTup.new s1.heap _) fun h' hx' => ?_)))
  have I3 := I2.kept (h' := h') (t' := s1.toks) fun b o e => hx' b o (Nat.ne_of_lt (Heap.lt_size e)) e
  show wpAny _ _ (assignInOrder [fun v => bindName X.env y v, fun v => bindName X.env x v] [u2, u1] >>= fun _ => pure Flow.next) _ _ _
  refine wpAny_bind (assignInOrder_cons (wpAny_bindName (store_ok I3 hN hj (.inl hy) rw' (fun s2 I4 => ?_) (.inr hy))))
  refine assignInOrder_cons (wpAny_bindName (store_ok I4 hN hi (.inl hx) rv (fun s3 I5 => assignInOrder_nil (wpAny_pure ?_)) (.inr hx)))
  rw [List.set_comm _ _ (Ne.symm hij)] at I5
  exact ⟨_, H1, I5, q1⟩
end

/-! ### while -/
section
variable {X : Cx} {pos : Pos}
/-- the invariant W with its measure -/
def tWhile (c : TT) (tb : TS) : TS := fun D σ H => ∃ W : Nat → St → Hp → Prop, (∃ m, W m σ H) ∧ ∀ m σ H, W m σ H →
  c σ H fun b H1 => if b = true then ∃ N : St → Hp → Prop, (∀ σ' H', N σ' H' → ∃ m', m' < m ∧ W m' σ' H') ∧ tb { D with nx := N, ct := N, bk := D.nx } σ H1 else D.nx σ H1
theorem ps_while {c : Expr} {body : List Stmt} {tc : TT} {tb : TS} (hp : PassesOwn (model X.prog X.w) X.A X.env X.xe) (hc : PT X c tc) (hb : PSs X body tb) : PS X (.While c body [] pos) (tWhile tc tb) := by
  intro pins s σ H D I h
  obtain ⟨W, ⟨m0, w0⟩, turn⟩ := h
  refine wpAny_While (codeAny_whileLoop (fun n s' => ∃ σ' H', Inv X pins σ' H' s' ∧ W n σ' H') ?_ m0 ⟨σ, H, I, w0⟩)
  rintro n s1 ⟨σ1, H1, I1, w1⟩
  refine wpAny_passesOwn hp (thn (hc pins s1 σ1 H1 _ I1 (turn n σ1 H1 w1)) fun b s2 ⟨H2, I2, q2⟩ => ?_)
  cases b with
  | true =>
    obtain ⟨N, hN, q2⟩ := q2
    rw [if_pos rfl]
    refine wpAny_passesOwn hp (thn (hb pins s2 σ1 H2 _ I2 q2) fun f s3 q3 => ?_)
    cases f with
    | next =>
      obtain ⟨σ3, H3, I3, n3⟩ := q3
      obtain ⟨m', hm, w3⟩ := hN σ3 H3 n3
      exact ⟨m', hm, σ3, H3, I3, w3⟩
    | cont =>
      obtain ⟨σ3, H3, I3, n3⟩ := q3
      obtain ⟨m', hm, w3⟩ := hN σ3 H3 n3
      exact ⟨m', hm, σ3, H3, I3, w3⟩
    | brk => exact q3
    | ret v => exact q3
  | false =>
    rw [if_neg Bool.false_ne_true]
    exact wpAny_execs_nil ⟨σ1, H2, I2, q2⟩
end

/-! ### what a loop or a comprehension walks -/
/-- at turn i: it yields x (the heap may grow), or it stops -/
structure It where
  go : Nat → Hp → Prop
  yld : Nat → Hp → V → Hp → Prop
  stop : Nat → Hp → Prop
/-- the iterator's own objects may turn: they are not the frame's, not pinned, younger than the entry (or a comprehension's own) -/
def FpOk (X : Cx) (pins : List (Addr × Obj)) (H : Hp) (b : Addr) : Prop :=
  H b = none ∧ b ≠ X.env.locals ∧ b ∉ X.fs ∧ (b ∈ X.ex ∨ X.s₀.heap.objs.size ≤ b) ∧ (∀ x c, X.env.cells.lookup x = some c → c ≠ b) ∧ ∀ p ∈ X.pn ++ pins, p.1 ≠ b
theorem Inv.fpOk {X : Cx} {pins : List (Addr × Obj)} {σ : St} {H H' : Hp} {s : Shared} {b : Addr} (I : Inv X pins σ H s) (hb : s.heap.objs.size ≤ b) (hn : H' b = none) : FpOk X pins H' b := by
  refine ⟨hn, Nat.ne_of_gt (Nat.lt_of_lt_of_le I.lt hb), I.nofs hb, .inr (Nat.le_trans I.sz hb), fun x c e z => ?_, fun p hp z => ?_⟩
  · obtain ⟨v, q⟩ := I.cell x c e
    exact absurd (Nat.lt_of_lt_of_le q.lt (by rw [z]; exact hb)) (Nat.lt_irrefl _)
  · exact absurd (Nat.lt_of_lt_of_le (Heap.lt_size (I.pin p hp).1) (by rw [z]; exact hb)) (Nat.lt_irrefl _)
structure Turn (P : Program) (w : World) (K : PySem.W.Frag) (tg : Expr) (J : It) (fp : List Addr) (it : Addr) (tn : Nat → Heap → Prop) : Prop where
  mem : it ∈ fp
  obj : ∀ i h, tn i h → ∀ b ∈ fp, ∃ o, h.get? b = some o ∧ ∀ v, o.data ≠ .cell v
  keep : ∀ i h h', tn i h → (∀ b ∈ fp, ∀ o, h.get? b = some o → h'.get? b = some o) → tn i h'
  item : ∀ (X : Cx), X.prog = P → X.w = w → X.K = K → X.calm = true → ∀ (i : Nat) (pins : List (Addr × Obj)) (s : Shared) (σ : St) (H : Hp) (E : Value → Shared → Prop), Inv X pins σ H s → (∀ b ∈ fp, FpOk X pins H b) → tn i s.heap → J.go i H →
    wpAny (model P w) X.A (pyNext (.ref it)) (fun r s1 => ∃ u, r = some u ∧
      wpAny (model P w) X.A (letOwnedTupleGo tg (.ref it) u) (fun _ s2 => ∃ x H', Inv X pins σ H' s2 ∧ RelV x u ∧ J.yld i H x H' ∧ tn (i + 1) s2.heap ∧ ∀ b ∈ fp, H' b = none) E s1) E s
  done : ∀ (X : Cx), X.prog = P → X.w = w → X.K = K → X.calm = true → ∀ (i : Nat) (pins : List (Addr × Obj)) (s : Shared) (σ : St) (H : Hp) (E : Value → Shared → Prop), Inv X pins σ H s → (∀ b ∈ fp, FpOk X pins H b) → tn i s.heap → J.stop i H →
    wpAny (model P w) X.A (pyNext (.ref it)) (fun r s1 => r = none ∧ Inv X pins σ H s1) E s
  self : ∀ (A : Around) (i : Nat) (s : Shared) (Q : Value → Shared → Prop) (E : Value → Shared → Prop), tn i s.heap → Q (.ref it) s → wpAny (model P w) A (pyIter (.ref it)) Q E s
abbrev TI := St → Hp → (It → Hp → Prop) → Prop
/-- an iterator has come -/
def PIE (X : Cx) (pins : List (Addr × Obj)) (σ : St) (tg : Expr) (R : It → Hp → Prop) (itv : Value) (s2 : Shared) : Prop :=
  ∃ (it : Addr) (fp : List Addr) (tn : Nat → Heap → Prop) (J : It) (H' : Hp), itv = .ref it ∧ Inv X pins σ H' s2 ∧ Turn X.prog X.w X.K tg J fp it tn ∧ tn 0 s2.heap ∧ (∀ b ∈ fp, FpOk X pins H' b) ∧ R J H'
def PI (X : Cx) (tg iter : Expr) (wi : TI) : Prop :=
  ∀ (pins : List (Addr × Obj)) (s : Shared) (σ : St) (H : Hp) (R : It → Hp → Prop), Inv X pins σ H s → wi σ H R →
    wpAny (model X.prog X.w) X.A (eval iter X.env) (fun v s1 => wpAny (model X.prog X.w) X.A (pyIter v) (PIE X pins σ tg R) X.xe s1) X.xe s

/-- the step ahead of the store is nothing for an iterator that keeps no tuple -/
theorem go_of {M : Model} {A : Around} {E : Value → Shared → Prop} {s : Shared} {tg : Expr} {it : Addr} {u : Value} {o : Obj} {n : String} {vs : Array Value} {Q : Unit → Shared → Prop} (ho : s.heap.get? it = some o) (hc : o.cls = .type n) (hd : o.data = .fields vs)
    (hn : ["enumerate", "zip", "dict_itemiterator", "dict_reverseitemiterator", "odict_iterator", "itertools.zip_longest", "itertools.pairwise"].contains n = false) (hQ : Q () s) : wpAny M A (letOwnedTupleGo tg (.ref it) u) Q E s := by
  unfold letOwnedTupleGo
  cases tg <;> first
    | exact wpAny_pure hQ
    | (cases u <;> first
        | exact wpAny_pure hQ
        | (refine wpAny_bind (wpAny_load ho ?_)
           rw [hc, hd]
           show wpAny M A (if (["enumerate", "zip", "dict_itemiterator", "dict_reverseitemiterator", "odict_iterator", "itertools.zip_longest", "itertools.pairwise"].contains n && vs[0]? == some (rawInt _)) = true then _ else _) Q E s
           rw [if_neg (by intro h; rw [hn, Bool.false_and] at h; cases h)]
           exact wpAny_pure hQ))

/-- the list at a, as it stands at each turn (a loop may append to it) -/
def Itl (K : PySem.W.Frag) (a : Addr) : It :=
  ⟨fun i H => ∃ xs x, SqL K H a xs ∧ xs[i]? = some x, fun i H x H' => H' = H ∧ ∀ xs, SqL K H a xs → xs[i]? = some x, fun i H => ∃ xs, SqL K H a xs ∧ xs.length ≤ i⟩
def Itt (K : PySem.W.Frag) (a : Addr) : It :=
  ⟨fun i H => ∃ xs x, SqT K H a xs ∧ xs[i]? = some x, fun i H x H' => H' = H ∧ ∀ xs, SqT K H a xs → xs[i]? = some x, fun i H => ∃ xs, SqT K H a xs ∧ xs.length ≤ i⟩
/-- lo, lo + 1, .. (n of them) -/
def Itr (lo : Int) (n : Nat) : It := ⟨fun i _ => i < n, fun i H x H' => H' = H ∧ x = .int (lo + i), fun i _ => n ≤ i⟩
theorem turn_list {P : Program} {w : World} {K : PySem.W.Frag} {tg : Expr} (a it : Addr) : Turn P w K tg (Itl K a) [it] it (fun i h => h.IsListIter it a i) where
  mem := by simp
  obj := fun i h st b hb => by
    have e : b = it := by simpa using hb
    subst e
    obtain ⟨o, e, c, d⟩ := st
    exact ⟨o, e, fun v z => by rw [d] at z; cases z⟩
  keep := fun i h h' st k => st.at fun o e => k it (by simp) o e
  item := by
    intro X hP hw hK hc i pins s σ H E I hf st hg
    subst hP hw hK
    obtain ⟨xs, x, hq, hx⟩ := hg
    obtain ⟨its, rv, p, hz⟩ := I.list hq
    obtain ⟨u, hu, ru⟩ := rv.get hx
    obtain ⟨f0, f1, f2, f3, f4, f5⟩ := hf it (by simp)
    refine wpAny_pyNext_list_item st p.isList (x := u) (by simpa using hu) fun h' st' sb => ?_
    have I1 : Inv X pins σ H { s with heap := h' } := I.turned (t' := s.toks) (fun b o hb e => (sb.2 b hb).trans e) f0 f1 f3 f4 f5
    obtain ⟨o, e, c, d⟩ := id st'
    exact ⟨u, rfl, go_of (s := { s with heap := h' }) e c d (by decide) ⟨x, H, I1, ru, ⟨rfl, fun ys hy => by rw [I.list_inj hy hq]; exact hx⟩, st', fun b hb => (hf b hb).1⟩⟩
  done := by
    intro X hP hw hK hc i pins s σ H E I hf st hg
    subst hP hw hK
    obtain ⟨xs, hq, hx⟩ := hg
    obtain ⟨its, rv, p, hz⟩ := I.list hq
    obtain ⟨f0, f1, f2, f3, f4, f5⟩ := hf it (by simp)
    have hl := rv.length
    exact wpAny_pyNext_list_end (I.ok.hd hc) st p.isList (by simp; omega) fun h' eb => ⟨rfl, I.turned (t' := s.toks) (fun b o hb e => eb b o hb e) f0 f1 f3 f4 f5⟩
  self := fun _ _ _ _ _ st h => wpAny_pyIter_listiter st h
theorem turn_tuple {P : Program} {w : World} {K : PySem.W.Frag} {tg : Expr} (a it : Addr) : Turn P w K tg (Itt K a) [it] it (fun i h => h.IsTupleIter it a i) where
  mem := by simp
  obj := fun i h st b hb => by
    have e : b = it := by simpa using hb
    subst e
    obtain ⟨o, e, c, d⟩ := st
    exact ⟨o, e, fun v z => by rw [d] at z; cases z⟩
  keep := fun i h h' st k => st.at fun o e => k it (by simp) o e
  item := by
    intro X hP hw hK hc i pins s σ H E I hf st hg
    subst hP hw hK
    obtain ⟨xs, x, hq, hx⟩ := hg
    obtain ⟨its, rv, p, hz⟩ := I.tuple hq
    obtain ⟨u, hu, ru⟩ := rv.get hx
    obtain ⟨f0, f1, f2, f3, f4, f5⟩ := hf it (by simp)
    refine wpAny_pyNext_tuple_item st (show s.heap.IsTuple a its.toArray from p) (x := u) (by simpa using hu) fun h' st' sb => ?_
    have I1 : Inv X pins σ H { s with heap := h' } := I.turned (t' := s.toks) (fun b o hb e => (sb.2 b hb).trans e) f0 f1 f3 f4 f5
    obtain ⟨o, e, c, d⟩ := id st'
    exact ⟨u, rfl, go_of (s := { s with heap := h' }) e c d (by decide) ⟨x, H, I1, ru, ⟨rfl, fun ys hy => by rw [I.tuple_inj hy hq]; exact hx⟩, st', fun b hb => (hf b hb).1⟩⟩
  done := by
    intro X hP hw hK hc i pins s σ H E I hf st hg
    subst hP hw hK
    obtain ⟨xs, hq, hx⟩ := hg
    obtain ⟨its, rv, p, hz⟩ := I.tuple hq
    obtain ⟨f0, f1, f2, f3, f4, f5⟩ := hf it (by simp)
    have hl := rv.length
    exact wpAny_pyNext_tuple_end (I.ok.hd hc) st (show s.heap.IsTuple a its.toArray from p) (by simp; omega) fun h' eb => ⟨rfl, I.turned (t' := s.toks) (fun b o hb e => eb b o hb e) f0 f1 f3 f4 f5⟩
  self := fun _ _ _ _ _ st h => wpAny_pyIter_tupleiter st h
theorem turn_range {P : Program} {w : World} {K : PySem.W.Frag} {tg : Expr} (it : Addr) (lo : Int) (n : Nat) : Turn P w K tg (Itr lo n) [it] it (fun i h => IsRangeIter h it (lo + (i : Nat) * 1) ((n : Int) - (i : Nat)) 1) where
  mem := by simp
  obj := fun i h st b hb => by
    have e : b = it := by simpa using hb
    subst e
    exact ⟨_, st, fun v z => by
      have z' : Data.fields _ = Data.cell v := z
      cases z'⟩
  keep := fun i h h' st k => k it (by simp) _ st
  item := by
    intro X hP hw hK hc i pins s σ H E I hf st hg
    subst hP hw hK
    obtain ⟨f0, f1, f2, f3, f4, f5⟩ := hf it (by simp)
    have W := Walks.range (prog := X.prog) (w := X.w) (I.ok.hd hc) it lo 1 n
    refine W.item i s _ _ hg st fun v h' tk hv st' kk => ?_
    obtain ⟨t, rfl⟩ := hv
    have I1 : Inv X pins σ H { s with heap := h', toks := tk } := I.turned (fun b o hb e => kk b o (by simpa using hb) e) f0 f1 f3 f4 f5
    refine ⟨_, rfl, go_of (s := { s with heap := h', toks := tk }) (n := "range_iterator") st' rfl rfl (by decide) ⟨.int (lo + i), H, I1, ⟨t, ?_⟩, ⟨rfl, rfl⟩, st', fun b hb => (hf b hb).1⟩⟩
    rw [Int.mul_one]
  done := by
    intro X hP hw hK hc i pins s σ H E I hf st hg
    subst hP hw hK
    obtain ⟨f0, f1, f2, f3, f4, f5⟩ := hf it (by simp)
    exact wpAny_pyNext_range_end (I.ok.hd hc) st (by have : n ≤ i := hg; omega) fun h' eb => ⟨rfl, I.turned (t' := s.toks) (fun b o hb e => eb b o hb e) f0 f1 f3 f4 f5⟩
  self := fun _ _ _ _ _ st h => wpAny_pyIter_rangeiter st h
end L2

namespace L2
open PySem PySem.Spec PyProof.Rows
section
variable {X : Cx} {tg : Expr}
def iList (K : PySem.W.Frag) (tl : TE) : TI := fun σ H R => tl σ H fun x H1 => ∃ a, x = .ref a ∧ (∃ xs, SqL K H1 a xs) ∧ R (Itl K a) H1
def iTup (K : PySem.W.Frag) (tl : TE) : TI := fun σ H R => tl σ H fun x H1 => ∃ a, x = .ref a ∧ (∃ xs, SqT K H1 a xs) ∧ R (Itt K a) H1
theorem pi_list {l : Expr} {tl : TE} (hl : PE X l tl) : PI X tg l (iList X.K tl) := by
  intro pins s σ H R I h
  refine thn (hl pins s σ H _ I h) fun v s1 ⟨x, H1, I1, r1, q1⟩ => ?_
  obtain ⟨a, e, ⟨xs, hq⟩, q⟩ := q1
  subst e
  cases r1
  obtain ⟨its, rv, p, hz⟩ := I1.list hq
  refine wpAny_pyIter_list p.isList ?_
  refine ⟨s1.heap.objs.size, [s1.heap.objs.size], _, _, H1, rfl, I1.kept (t' := s1.toks) fun b o e => Heap.get?_push_of_some _ e, turn_list a _, ⟨_, Heap.get?_push_size _ rfl, rfl, rfl⟩, fun b hb => ?_, q⟩
  have e : b = s1.heap.objs.size := by simpa using hb
  subst e
  exact I1.fpOk (Nat.le_refl _) (I1.hok.fresh (Nat.le_refl _))
theorem pi_tup {l : Expr} {tl : TE} (hl : PE X l tl) : PI X tg l (iTup X.K tl) := by
  intro pins s σ H R I h
  refine thn (hl pins s σ H _ I h) fun v s1 ⟨x, H1, I1, r1, q1⟩ => ?_
  obtain ⟨a, e, ⟨xs, hq⟩, q⟩ := q1
  subst e
  cases r1
  obtain ⟨its, rv, p, hz⟩ := I1.tuple hq
  refine wpAny_pyIter_tuple (show s1.heap.IsTuple a its.toArray from p) ?_
  refine ⟨s1.heap.objs.size, [s1.heap.objs.size], _, _, H1, rfl, I1.kept (t' := s1.toks) fun b o e => Heap.get?_push_of_some _ e, turn_tuple a _, ⟨_, Heap.get?_push_size _ rfl, rfl, rfl⟩, fun b hb => ?_, q⟩
  have e : b = s1.heap.objs.size := by simpa using hb
  subst e
  exact I1.fpOk (Nat.le_refl _) (I1.hok.fresh (Nat.le_refl _))
/-- a range object just made, walked -/
theorem range_it {pins : List (Addr × Obj)} {σ : St} {H : Hp} {s : Shared} {R : It → Hp → Prop} {E : Value → Shared → Prop} {lo hi : Int} {t u v : Tok} {tk : Nat} (I : Inv X pins σ H s) (h1 : -(2 ^ 62) ≤ lo) (h2 : lo < 2 ^ 62) (h3 : -(2 ^ 62) ≤ hi) (h4 : hi < 2 ^ 62)
    (q : R (Itr lo (hi - lo).toNat) H) : wpAny (model X.prog X.w) X.A (pyIter (.ref s.heap.objs.size)) (PIE X pins σ tg R) E { s with heap := s.heap.push { cls := .type "range", data := .fields #[.int lo t, .int hi u, .int 1 v] }, toks := tk } := by
  refine wpAny_pyIter_range (IsRange.new ..) (small_one h1 h2 h3 h4) ?_
  have I1 : Inv X pins σ H { s with heap := s.heap.push { cls := .type "range", data := .fields #[.int lo t, .int hi u, .int 1 v] }, toks := tk } := I.kept fun b o e => Heap.get?_push_of_some _ e
  refine ⟨(s.heap.push { cls := .type "range", data := .fields #[.int lo t, .int hi u, .int 1 v] }).objs.size, [(s.heap.push { cls := .type "range", data := .fields #[.int lo t, .int hi u, .int 1 v] }).objs.size], _, _, H, rfl,
    I1.kept (t' := tk) fun b o e => Heap.get?_push_of_some _ e, turn_range _ lo (hi - lo).toNat, ?_, fun b hb => ?_, q⟩
  · have e1 : lo + ((0 : Nat) : Int) * 1 = lo := by simp
    have e2 : (((hi - lo).toNat : Nat) : Int) - ((0 : Nat) : Int) = Builtin.Range.rangeSize lo hi 1 := by rw [rangeSize_one]; split <;> omega
    show IsRangeIter _ _ (lo + ((0 : Nat) : Int) * 1) ((((hi - lo).toNat : Nat) : Int) - ((0 : Nat) : Int)) 1
    rw [e1, e2]
    exact Heap.get?_push_size _ rfl
  · have e : b = (s.heap.push { cls := .type "range", data := .fields #[.int lo t, .int hi u, .int 1 v] }).objs.size := by simpa using hb
    subst e
    exact I1.fpOk (Nat.le_refl _) (I1.hok.fresh (Nat.le_refl _))
def iRng1 (ta : TA) : TI := fun σ H R => ta σ H fun vs H1 => ∃ j : Int, vs = [.int j] ∧ -(2 ^ 62) ≤ j ∧ j < 2 ^ 62 ∧ R (Itr 0 j.toNat) H1
def iRng2 (ta : TA) : TI := fun σ H R => ta σ H fun vs H1 => ∃ i j : Int, vs = [.int i, .int j] ∧ (-(2 ^ 62) ≤ i ∧ i < 2 ^ 62 ∧ -(2 ^ 62) ≤ j ∧ j < 2 ^ 62) ∧ R (Itr i (j - i).toNat) H1
theorem pi_range1 {a : Expr} {ta : TA} {p pos : Pos} (hg : Gl X "range") (hm : X.mg "range" = none) (ha : PA X [a] ta) (hs : starEach [a] X.env = [(false, eval a X.env)] := by rfl) : PI X tg (.Call (.Name "range" p) [a] [] pos) (iRng1 ta) := by
  intro pins s σ H R I h
  refine Call_ (ld_blt I hg hm boot_range (PyProof.Rows.callWith_type1 (thn (ha pos pins s σ H _ I h) fun us s1 ⟨vs, H1, I1, r1, q1⟩ => ?_) hs rfl))
  obtain ⟨j, e, q1, q2, q⟩ := q1
  subst e
  cases r1 with
  | cons r rr =>
    cases rr
    obtain ⟨t, rfl⟩ := r
    exact call_range_1 (range_it I1 (by omega) (by omega) q1 q2 (by simpa using q))
theorem pi_range2 {a b : Expr} {ta : TA} {p pos : Pos} (hg : Gl X "range") (hm : X.mg "range" = none) (ha : PA X [a, b] ta) (hs : starEach [a, b] X.env = [(false, eval a X.env), (false, eval b X.env)] := by rfl) (hs2 : starEach [b] X.env = [(false, eval b X.env)] := by rfl) :
    PI X tg (.Call (.Name "range" p) [a, b] [] pos) (iRng2 ta) := by
  intro pins s σ H R I h
  refine Call_ (ld_blt I hg hm boot_range (PyProof.Rows.callWith_type1 (thn (ha pos pins s σ H _ I h) fun us s1 ⟨vs, H1, I1, r1, q1⟩ => ?_) (by rw [hs, hs2]) (by rw [hs2]; rfl)))
  obtain ⟨i, j, e, ⟨q1, q2, q3, q4⟩, q⟩ := q1
  subst e
  cases r1 with
  | cons r rr =>
    cases rr with
    | cons r' rr =>
      cases rr
      obtain ⟨t, rfl⟩ := r
      obtain ⟨t', rfl⟩ := r'
      exact call_range_2 (range_it I1 q1 q2 q3 q4 q)

/-! ### for -/
/-- W: the invariant by the turn and a measure; N: what the body is to reach -/
def tFor (wi : TI) (g : TG) (tb : TS) : TS := fun D σ H => wi σ H fun J H1 => ∃ W : Nat → Nat → St → Hp → Prop, (∃ m, W 0 m σ H1) ∧ ∀ i m σ H, W i m σ H →
  (J.stop i H ∧ D.nx σ H) ∨ (J.go i H ∧ ∃ N : St → Hp → Prop, (∀ σ' H', N σ' H' → ∃ m', m' < m ∧ W (i + 1) m' σ' H') ∧ ∀ x H', J.yld i H x H' → g x σ H' fun σ2 H2 => tb { D with nx := N, ct := N, bk := D.nx } σ2 H2)
/-- the records at fp as they stand -/
def pinsAt (fp : List Addr) (h : Heap) : List (Addr × Obj) := fp.filterMap fun b => (h.get? b).map fun o => (b, o)
theorem mem_pinsAt {fp : List Addr} {h : Heap} {b : Addr} {o : Obj} (hb : b ∈ fp) (e : h.get? b = some o) : (b, o) ∈ pinsAt fp h := List.mem_filterMap.mpr ⟨b, hb, by rw [e]; rfl⟩
theorem of_pinsAt {fp : List Addr} {h : Heap} {p : Addr × Obj} (hp : p ∈ pinsAt fp h) : p.1 ∈ fp ∧ h.get? p.1 = some p.2 := by
  obtain ⟨b, hb, e⟩ := List.mem_filterMap.mp hp
  cases q : h.get? b with
  | none => rw [q] at e; cases e
  | some o =>
    rw [q] at e
    have e' : (b, o) = p := Option.some.inj e
    subst e'
    exact ⟨hb, q⟩
theorem Inv.pinned {pins : List (Addr × Obj)} {σ : St} {H : Hp} {s : Shared} {fp : List Addr} (I : Inv X pins σ H s) (hf : ∀ b ∈ fp, FpOk X pins H b) (ho : ∀ b ∈ fp, ∃ o, s.heap.get? b = some o ∧ ∀ v, o.data ≠ .cell v) : Inv X (pins ++ pinsAt fp s.heap) σ H s :=
  I.pins_of fun p hp => (List.mem_append.mp hp).elim (fun z => I.pin p (List.mem_append_right _ z)) fun z => by
    obtain ⟨hb, e⟩ := of_pinsAt z
    obtain ⟨f0, f1, f2, _⟩ := hf p.1 hb
    obtain ⟨o, e', d⟩ := ho p.1 hb
    rw [e] at e'; cases e'
    exact ⟨e, f0, f1, f2, d⟩
theorem Inv.unpinned {pins pl : List (Addr × Obj)} {σ : St} {H : Hp} {s : Shared} (I : Inv X (pins ++ pl) σ H s) : Inv X pins σ H s := I.pins_of fun p hp => I.pin p (List.mem_append_right _ (List.mem_append_left _ hp))
theorem ps_for {iter : Expr} {body : List Stmt} {wi : TI} {g : TG} {tb : TS} {pos : Pos} (hp : PassesOwn (model X.prog X.w) X.A X.env X.xe) (hc : X.calm = true) (hi : PI X tg iter wi) (hg : PG X tg g) (hb : PSs X body tb)
    (hs : ∀ x, foldedSetIterable iter X.env x = pure x := by intro _; rfl) : PS X (.For tg iter body [] pos) (tFor wi g tb) := by
  intro pins s σ H D I h
  refine wpAny_For (thn (hi pins s σ H _ I h) fun v s1 h1 => thn h1 fun itv s2 h2 => ?_) hs
  obtain ⟨it, fp, tn, J, H2, e, I2, T, st2, f2, W, ⟨m0, w0⟩, turn⟩ := h2
  subst e
  -- what stays true of the iterator's objects through the loop
  have stat : ∀ {H' : Hp}, (∀ b ∈ fp, H' b = none) → ∀ b ∈ fp, FpOk X pins H' b := fun hn b hb => ⟨hn b hb, (f2 b hb).2⟩
  refine codeAny_forLoop_any (fun n s' => ∃ i σ' H', Inv X pins σ' H' s' ∧ tn i s'.heap ∧ (∀ b ∈ fp, H' b = none) ∧ W i n σ' H') ?_ m0 ⟨0, σ, H2, I2, st2, fun b hb => (f2 b hb).1, w0⟩
  rintro n s3 ⟨i, σ3, H3, I3, st3, fr3, w3⟩
  rcases turn i n σ3 H3 w3 with ⟨stop, qn⟩ | ⟨go, N, hN, step⟩
  · refine wpAny_passesOwn hp (thn (T.done X rfl rfl rfl hc i pins s3 σ3 H3 X.xe I3 (stat fr3) st3 stop) fun r s4 ⟨hr, I4⟩ => ?_)
    subst hr
    exact wpAny_execs_nil ⟨σ3, H3, I4, qn⟩
  · refine wpAny_passesOwn hp (thn (T.item X rfl rfl rfl hc i pins s3 σ3 H3 X.xe I3 (stat fr3) st3 go) fun r s4 ⟨u, hr, h4⟩ => ?_)
    subst hr
    refine wpAny_passesOwn hp (thn h4 fun _ s5 ⟨x, H5, I5, r5, y5, st5, fr5⟩ => ?_)
    have I5' := I5.pinned (stat fr5) (T.obj _ _ st5)
    refine wpAny_passesOwn hp (thn (hg _ s5 σ3 H5 x u _ I5' r5 (step x H5 y5)) fun _ s6 ⟨σ6, H6, I6, q6⟩ => ?_)
    refine wpAny_passesOwn hp (thn (hb _ s6 σ6 H6 _ I6 q6) fun f s7 q7 => ?_)
    have again : ∀ {σ7 : St} {H7 : Hp}, Inv X (pins ++ pinsAt fp s5.heap) σ7 H7 s7 → N σ7 H7 → ∃ m, m < n ∧ ∃ i σ' H', Inv X pins σ' H' s7 ∧ tn i s7.heap ∧ (∀ b ∈ fp, H' b = none) ∧ W i m σ' H' := fun {σ7 H7} I7 n7 => by
      obtain ⟨m', hm, w7⟩ := hN σ7 H7 n7
      refine ⟨m', hm, i + 1, σ7, H7, I7.unpinned, T.keep _ _ _ st5 fun b hb o e => (I7.pin (b, o) (List.mem_append_right _ (List.mem_append_right _ (mem_pinsAt hb e)))).1, fun b hb => ?_, w7⟩
      obtain ⟨o, e, d⟩ := T.obj _ _ st5 b hb
      exact (I7.pin (b, o) (List.mem_append_right _ (List.mem_append_right _ (mem_pinsAt hb e)))).2.1
    cases f with
    | next => obtain ⟨σ7, H7, I7, n7⟩ := q7; exact again I7 n7
    | cont => obtain ⟨σ7, H7, I7, n7⟩ := q7; exact again I7 n7
    | brk => obtain ⟨σ7, H7, I7, q7⟩ := q7; exact ⟨σ7, H7, I7.unpinned, q7⟩
    | ret v => obtain ⟨x7, σ7, H7, I7, r7, q7⟩ := q7; exact ⟨x7, σ7, H7, I7.unpinned, r7, q7⟩
end

/-! ### the forms one uses -/
/-- over a list that the body leaves as it is -/
theorem for_list {K : PySem.W.Frag} {a : Addr} {xs : List V} {g : TG} {tb : TS} {D : Ends} {σ : St} {H : Hp} (Pv : Nat → St → Hp → Prop) (h0 : Pv 0 σ H) (hl : ∀ i σ H, i ≤ xs.length → Pv i σ H → SqL K H a xs)
    (hs : ∀ i x σ H, xs[i]? = some x → Pv i σ H → g x σ H fun σ2 H2 => tb { D with nx := Pv (i + 1), ct := Pv (i + 1), bk := D.nx } σ2 H2) (hd : ∀ σ H, Pv xs.length σ H → D.nx σ H) :
    ∃ W : Nat → Nat → St → Hp → Prop, (∃ m, W 0 m σ H) ∧ ∀ i m σ H, W i m σ H →
      ((Itl K a).stop i H ∧ D.nx σ H) ∨ ((Itl K a).go i H ∧ ∃ N : St → Hp → Prop, (∀ σ' H', N σ' H' → ∃ m', m' < m ∧ W (i + 1) m' σ' H') ∧ ∀ x H', (Itl K a).yld i H x H' → g x σ H' fun σ2 H2 => tb { D with nx := N, ct := N, bk := D.nx } σ2 H2) := by
  refine ⟨fun i m σ H => m = xs.length - i ∧ i ≤ xs.length ∧ Pv i σ H, ⟨xs.length, by simp, Nat.zero_le _, h0⟩, ?_⟩
  rintro i m σ H ⟨rfl, hi, p⟩
  have q := hl i σ H hi p
  by_cases hlt : i < xs.length
  · refine .inr ⟨⟨xs, xs[i], q, by simp [hlt]⟩, Pv (i + 1), fun σ' H' p' => ⟨xs.length - (i + 1), by omega, rfl, hlt, p'⟩, fun x H' y => ?_⟩
    obtain ⟨e, y⟩ := y
    subst e
    exact hs i x σ _ (y xs q) p
  · have e : i = xs.length := by omega
    subst e
    exact .inl ⟨⟨xs, q, Nat.le_refl _⟩, hd σ H p⟩
theorem for_range {lo : Int} {n : Nat} {g : TG} {tb : TS} {D : Ends} {σ : St} {H : Hp} (Pv : Nat → St → Hp → Prop) (h0 : Pv 0 σ H)
    (hs : ∀ i σ H, i < n → Pv i σ H → g (.int (lo + i)) σ H fun σ2 H2 => tb { D with nx := Pv (i + 1), ct := Pv (i + 1), bk := D.nx } σ2 H2) (hd : ∀ σ H, Pv n σ H → D.nx σ H) :
    ∃ W : Nat → Nat → St → Hp → Prop, (∃ m, W 0 m σ H) ∧ ∀ i m σ H, W i m σ H →
      ((Itr lo n).stop i H ∧ D.nx σ H) ∨ ((Itr lo n).go i H ∧ ∃ N : St → Hp → Prop, (∀ σ' H', N σ' H' → ∃ m', m' < m ∧ W (i + 1) m' σ' H') ∧ ∀ x H', (Itr lo n).yld i H x H' → g x σ H' fun σ2 H2 => tb { D with nx := N, ct := N, bk := D.nx } σ2 H2) := by
  refine ⟨fun i m σ H => m = n - i ∧ i ≤ n ∧ Pv i σ H, ⟨n, by simp, Nat.zero_le _, h0⟩, ?_⟩
  rintro i m σ H ⟨rfl, hi, p⟩
  by_cases hlt : i < n
  · refine .inr ⟨hlt, Pv (i + 1), fun σ' H' p' => ⟨n - (i + 1), by omega, rfl, hlt, p'⟩, fun x H' y => ?_⟩
    obtain ⟨e, y⟩ := y
    subst e y
    exact hs i σ _ hlt p
  · have e : i = n := by omega
    subst e
    exact .inl ⟨Nat.le_refl _, hd σ H p⟩
/-- while, by a word and a measure of the state -/
theorem while_by {c : TT} {tb : TS} {D : Ends} {σ : St} {H : Hp} (Pv : St → Hp → Prop) (μ : St → Hp → Nat) (h0 : Pv σ H)
    (hs : ∀ σ H, Pv σ H → c σ H fun b H1 => if b = true then tb { D with nx := fun σ' H' => Pv σ' H' ∧ μ σ' H' < μ σ H, ct := fun σ' H' => Pv σ' H' ∧ μ σ' H' < μ σ H, bk := D.nx } σ H1 else D.nx σ H1)
    (mono : ∀ σ H Q Q', (∀ b H1, Q b H1 → Q' b H1) → c σ H Q → c σ H Q') : tWhile c tb D σ H := by
  refine ⟨fun m σ H => m = μ σ H ∧ Pv σ H, ⟨_, rfl, h0⟩, ?_⟩
  rintro m σ H ⟨rfl, p⟩
  refine mono σ H _ _ (fun b H1 q => ?_) (hs σ H p)
  cases b with
  | true => exact ⟨_, fun σ' H' ⟨p', l⟩ => ⟨_, l, rfl, p'⟩, q⟩
  | false => exact q
end L2

namespace L2
open PySem PySem.Spec PyProof.Rows

abbrev R2 := V → V → Hp → VK → Prop
/-- a two-place operation on values: f is binaryOp op, inplaceOp op or compareOp op -/
def OpR (X : Cx) (f : Value → Value → Sem Value) (r : R2) : Prop :=
  ∀ (pins : List (Addr × Obj)) (s : Shared) (σ : St) (H : Hp) (x y : V) (v u : Value) (Q : VK), Inv X pins σ H s → RelV x v → RelV y u → r x y H Q →
    wpAny (model X.prog X.w) X.A (f v u) (EP X pins σ Q) X.xe s
/-- a one-place operation -/
def UnR (X : Cx) (f : Value → Sem Value) (r : V → Hp → VK → Prop) : Prop :=
  ∀ (pins : List (Addr × Obj)) (s : Shared) (σ : St) (H : Hp) (x : V) (v : Value) (Q : VK), Inv X pins σ H s → RelV x v → r x H Q →
    wpAny (model X.prog X.w) X.A (f v) (EP X pins σ Q) X.xe s
/-- a call of a value that is known (a builtin, a type) with values -/
def CallR (X : Cx) (f : Value) (r : List V → Hp → VK → Prop) : Prop :=
  ∀ (pins : List (Addr × Obj)) (s : Shared) (σ : St) (H : Hp) (xs : List V) (us : List Value) (Q : VK), Inv X pins σ H s → Vals xs us → r xs H Q →
    wpAny (model X.prog X.w) X.A (call f us) (EP X pins σ Q) X.xe s

def tOp (r : R2) (ta tb : TE) : TE := fun σ H Q => ta σ H fun x H1 => tb σ H1 fun y H2 => r x y H2 Q
def tUn (r : V → Hp → VK → Prop) (ta : TE) : TE := fun σ H Q => ta σ H fun x H1 => r x H1 Q
/-- ints in, under C, and a value out -/
def rI (C : Int → Int → Prop) (g : Int → Int → V) : R2 := fun x y H Q => ∃ i j, x = .int i ∧ y = .int j ∧ C i j ∧ Q (g i j) H
def rI0 (g : Int → Int → V) : R2 := fun x y H Q => ∃ i j, x = .int i ∧ y = .int j ∧ Q (g i j) H
def rU (g : Int → V) : V → Hp → VK → Prop := fun x H Q => ∃ i, x = .int i ∧ Q (g i) H

section
variable {X : Cx} {a b c : Expr} {ta tb tc : TE} {pos : Pos}

theorem binT (ha : PE X a ta) (hb : PE X b tb) {pins : List (Addr × Obj)} {s : Shared} {σ : St} {H : Hp} {R : V → V → Hp → Prop} (I : Inv X pins σ H s)
    (h : ta σ H fun x H1 => tb σ H1 fun y H2 => R x y H2) {Q : Value → Shared → Prop} {f : Value → Value → Sem Value}
    (hf : ∀ v u s2 x y H2, Inv X pins σ H2 s2 → RelV x v → RelV y u → R x y H2 → wpAny (model X.prog X.w) X.A (f v u) Q X.xe s2) :
    wpAny (model X.prog X.w) X.A (eval a X.env) (fun v s₁ => wpAny (model X.prog X.w) X.A (eval b X.env) (fun u s₂ => wpAny (model X.prog X.w) X.A (f v u) Q X.xe s₂) X.xe s₁) X.xe s := by
  refine thn (ha pins s σ H _ I h) fun v s1 ⟨x, H1, I1, r1, q1⟩ => ?_
  refine thn (hb pins s1 σ H1 _ I1 q1) fun u s2 ⟨y, H2, I2, r2, q2⟩ => ?_
  exact hf v u s2 x y H2 I2 r1 r2 q2

theorem pe_op {op : Operator} {r : R2} (ho : OpR X (binaryOp op) r) (ha : PE X a ta) (hb : PE X b tb) : PE X (.BinOp a op b pos) (tOp r ta tb) := by
  intro pins s σ H Q I h
  exact wpAny_BinOp (binT ha hb I h fun v u s2 x y H2 I2 rx ry q => ho pins s2 σ H2 x y v u Q I2 rx ry q)
theorem pe_un {op : UnaryOp} {r : V → Hp → VK → Prop} (ho : UnR X (unaryOp op) r) (ha : PE X a ta) : PE X (.UnaryOp op a pos) (tUn r ta) := by
  intro pins s σ H Q I h
  exact UnaryOp_ (thn (ha pins s σ H _ I h) fun v s1 ⟨x, H1, I1, r1, q1⟩ => ho pins s1 σ H1 x v Q I1 r1 q1)

/-! ### ints -/
theorem opI {f : Value → Value → Sem Value} {C : Int → Int → Prop} {g : Int → Int → Int}
    (rule : ∀ (i j : Int) (t u : Tok) (s : Shared) (Q : Value → Shared → Prop) (E : Value → Shared → Prop), C i j → Q (.int (g i j) s.toks) { s with toks := s.toks + 1 } → wpAny (model X.prog X.w) X.A (f (.int i t) (.int j u)) Q E s) :
    OpR X f (rI C fun i j => .int (g i j)) := by
  intro pins s σ H x y v u Q I rx ry h
  obtain ⟨i, j, rfl, rfl, hc, q⟩ := h
  obtain ⟨t, rfl⟩ := rx
  obtain ⟨t', rfl⟩ := ry
  exact rule i j t t' s _ _ hc ⟨.int (g i j), H, I.tok _, ⟨_, rfl⟩, q⟩
theorem opI0 {f : Value → Value → Sem Value} {g : Int → Int → Int}
    (rule : ∀ (i j : Int) (t u : Tok) (s : Shared) (Q : Value → Shared → Prop) (E : Value → Shared → Prop), Q (.int (g i j) s.toks) { s with toks := s.toks + 1 } → wpAny (model X.prog X.w) X.A (f (.int i t) (.int j u)) Q E s) :
    OpR X f (rI0 fun i j => .int (g i j)) := by
  intro pins s σ H x y v u Q I rx ry h
  obtain ⟨i, j, rfl, rfl, q⟩ := h
  obtain ⟨t, rfl⟩ := rx
  obtain ⟨t', rfl⟩ := ry
  exact rule i j t t' s _ _ ⟨.int (g i j), H, I.tok _, ⟨_, rfl⟩, q⟩
theorem opB0 {f : Value → Value → Sem Value} {g : Int → Int → Bool}
    (rule : ∀ (i j : Int) (t u : Tok) (s : Shared) (Q : Value → Shared → Prop) (E : Value → Shared → Prop), Q (.bool (g i j)) s → wpAny (model X.prog X.w) X.A (f (.int i t) (.int j u)) Q E s) :
    OpR X f (rI0 fun i j => .bl (g i j)) := by
  intro pins s σ H x y v u Q I rx ry h
  obtain ⟨i, j, rfl, rfl, q⟩ := h
  obtain ⟨t, rfl⟩ := rx
  obtain ⟨t', rfl⟩ := ry
  exact rule i j t t' s _ _ ⟨.bl (g i j), H, I, rfl, q⟩

def CPow (i j : Int) : Prop := 0 ≤ j ∧ j ≤ 1000000 ∧ i.natAbs < 2 ^ 64
def CMul (i j : Int) : Prop := (-(2 ^ 64) < i ∧ i < 2 ^ 64) ∨ (-(2 ^ 64) < j ∧ j < 2 ^ 64)
theorem CMul.ok {i j : Int} (h : CMul i j) : IntMulOk i j := by
  rcases h with ⟨h1, h2⟩ | ⟨h1, h2⟩
  · exact .of_left (intBits_le_64 h1 h2)
  · exact .of_right (intBits_le_64 h1 h2)

theorem op_add : OpR X (binaryOp .Add) (rI0 fun i j => .int (i + j)) := opI0 fun _ _ _ _ _ _ _ q => add_int q
theorem op_sub : OpR X (binaryOp .Sub) (rI0 fun i j => .int (i - j)) := opI0 fun _ _ _ _ _ _ _ q => sub_int q
theorem op_mul : OpR X (binaryOp .Mult) (rI CMul fun i j => .int (i * j)) := opI fun _ _ _ _ _ _ _ hc q => mul_int q hc.ok
/-- % by a positive divisor of any size -/
theorem op_mod : OpR X (binaryOp .Mod) (rI (fun _ j => 0 < j) fun i j => .int (i % j)) := opI fun i j _ _ _ _ _ hc q => by
  have h1 : (0 : Int) < j := hc
  exact mod_int' (by omega) (by rw [Int.fmod_eq_emod_of_nonneg i (by omega)]; exact q)
theorem op_pow : OpR X (binaryOp .Pow) (rI CPow fun i j => .int (i ^ j.toNat)) := opI fun _ _ _ _ _ _ _ hc q => pow_int_small hc.1 hc.2.1 hc.2.2 q


theorem unI {f : Value → Sem Value} {g : Int → Int}
    (rule : ∀ (i : Int) (t : Tok) (s : Shared) (Q : Value → Shared → Prop) (E : Value → Shared → Prop), Q (.int (g i) s.toks) { s with toks := s.toks + 1 } → wpAny (model X.prog X.w) X.A (f (.int i t)) Q E s) :
    UnR X f (rU fun i => .int (g i)) := by
  intro pins s σ H x v Q I rx h
  obtain ⟨i, rfl, q⟩ := h
  obtain ⟨t, rfl⟩ := rx
  exact rule i t s _ _ ⟨.int (g i), H, I.tok _, ⟨_, rfl⟩, q⟩
theorem un_neg : UnR X (unaryOp .USub) (rU fun i => .int (-i)) := unI fun _ _ _ _ _ q => neg_int q

/-! ### bools among ints: n += (a < b) -/
end

/-! ### comparisons -/
/-- the scalars that == tells apart as data does -/
def scal : V → V → Bool
  | .non, .non => true | .non, .int _ => true | .int _, .non => true | .non, .bl _ => true | .bl _, .non => true | .non, .str _ => true | .str _, .non => true
  | .int _, .int _ => true | .bl _, .bl _ => true | .str _, .str _ => true | .byt _, .byt _ => true
  | .int _, .str _ => true | .str _, .int _ => true | .bl _, .str _ => true | .str _, .bl _ => true
  | _, _ => false
def rEq : R2 := fun x y H Q => scal x y = true ∧ Q (.bl (decide (x = y))) H
def rNe : R2 := fun x y H Q => scal x y = true ∧ Q (.bl (!decide (x = y))) H

theorem dec_int {i j : Int} : decide (V.int i = V.int j) = (i == j) := by
  rw [Bool.eq_iff_iff]
  simp
theorem dec_bl {i j : Bool} : decide (V.bl i = V.bl j) = (i == j) := by
  rw [Bool.eq_iff_iff]
  simp
theorem dec_str {i j : Str} : decide (V.str i = V.str j) = (i == j) := by
  rw [Bool.eq_iff_iff]
  simp
theorem dec_byt {i j : Array UInt8} : decide (V.byt i = V.byt j) = (i.toList == j.toList) := by
  rw [Bool.eq_iff_iff]
  cases i
  cases j
  simp

section
variable {X : Cx} {a b c : Expr} {ta tb tc : TE} {pos : Pos}
theorem fin_bl {pins : List (Addr × Obj)} {σ : St} {H : Hp} {s : Shared} {Q : VK} {k k' : Bool} (I : Inv X pins σ H s) (q : Q (.bl k) H) (e : k = k') : EP X pins σ Q (.bool k') s := by
  subst e
  exact ⟨.bl k, H, I, rfl, q⟩
theorem op_eq : OpR X (compareOp .Eq) rEq := by
  intro pins s σ H x y v u Q I rx ry h
  obtain ⟨hs, q⟩ := h
  cases x with
  | non =>
    cases rx
    cases y with
    | non => cases ry; exact PySem.EqNone.eq_none_none (fin_bl I q (by simp))
    | bl j => cases ry; exact PySem.EqNone.eq_none_bool (fin_bl I q (by simp))
    | int j => obtain ⟨t', rfl⟩ := ry; exact PySem.EqNone.eq_none_int (fin_bl I q (by simp))
    | str j => obtain ⟨t', rfl⟩ := ry; exact PySem.EqNone.eq_none_str (fin_bl I q (by simp))
    | _ => exact absurd (show false = true from hs) Bool.false_ne_true
  | bl i =>
    cases rx
    cases y with
    | non => cases ry; exact PySem.EqNone.eq_bool_none (fin_bl I q (by simp))
    | bl j => cases ry; exact eq_bool (fin_bl I q dec_bl)
    | str j => obtain ⟨t', rfl⟩ := ry; exact PySem.EqMixed.eq_bool_str (fin_bl I q (by simp))
    | _ => exact absurd (show false = true from hs) Bool.false_ne_true
  | int i =>
    obtain ⟨t, rfl⟩ := rx
    cases y with
    | non => cases ry; exact PySem.EqNone.eq_int_none (fin_bl I q (by simp))
    | int j => obtain ⟨t', rfl⟩ := ry; exact eq_int (fin_bl I q dec_int)
    | str j => obtain ⟨t', rfl⟩ := ry; exact PySem.EqMixed.eq_int_str (fin_bl I q (by simp))
    | _ => exact absurd (show false = true from hs) Bool.false_ne_true
  | str i =>
    obtain ⟨t, rfl⟩ := rx
    cases y with
    | non => cases ry; exact PySem.EqNone.eq_str_none (fin_bl I q (by simp))
    | bl j => cases ry; exact PySem.EqMixed.eq_str_bool (fin_bl I q (by simp))
    | int j => obtain ⟨t', rfl⟩ := ry; exact PySem.EqMixed.eq_str_int (fin_bl I q (by simp))
    | str j => obtain ⟨t', rfl⟩ := ry; exact eq_str (fin_bl I q dec_str)
    | _ => exact absurd (show false = true from hs) Bool.false_ne_true
  | byt i =>
    obtain ⟨t, rfl⟩ := rx
    cases y with
    | byt j => obtain ⟨t', rfl⟩ := ry; exact PySem.W.eq_bytes (fin_bl I q dec_byt)
    | _ => exact absurd (show false = true from hs) Bool.false_ne_true
  | _ => cases y <;> exact absurd (show false = true from hs) Bool.false_ne_true
theorem op_ne : OpR X (compareOp .NotEq) rNe := by
  intro pins s σ H x y v u Q I rx ry h
  obtain ⟨hs, q⟩ := h
  cases x with
  | non =>
    cases rx
    cases y with
    | non => cases ry; exact PySem.EqNone.ne_none_none (fin_bl I q (by simp))
    | bl j => cases ry; exact PySem.EqNone.ne_none_bool (fin_bl I q (by simp))
    | int j => obtain ⟨t', rfl⟩ := ry; exact PySem.EqNone.ne_none_int (fin_bl I q (by simp))
    | str j => obtain ⟨t', rfl⟩ := ry; exact PySem.EqNone.ne_none_str (fin_bl I q (by simp))
    | _ => exact absurd (show false = true from hs) Bool.false_ne_true
  | bl i =>
    cases rx
    cases y with
    | non => cases ry; exact PySem.EqNone.ne_bool_none (fin_bl I q (by simp))
    | bl j => cases ry; exact ne_bool (fin_bl I q (congrArg not dec_bl))
    | str j => obtain ⟨t', rfl⟩ := ry; exact PySem.EqMixed.ne_bool_str (fin_bl I q (by simp))
    | _ => exact absurd (show false = true from hs) Bool.false_ne_true
  | int i =>
    obtain ⟨t, rfl⟩ := rx
    cases y with
    | non => cases ry; exact PySem.EqNone.ne_int_none (fin_bl I q (by simp))
    | int j => obtain ⟨t', rfl⟩ := ry; exact ne_int (fin_bl I q (congrArg not dec_int))
    | str j => obtain ⟨t', rfl⟩ := ry; exact PySem.EqMixed.ne_int_str (fin_bl I q (by simp))
    | _ => exact absurd (show false = true from hs) Bool.false_ne_true
  | str i =>
    obtain ⟨t, rfl⟩ := rx
    cases y with
    | non => cases ry; exact PySem.EqNone.ne_str_none (fin_bl I q (by simp))
    | bl j => cases ry; exact PySem.EqMixed.ne_str_bool (fin_bl I q (by simp))
    | int j => obtain ⟨t', rfl⟩ := ry; exact PySem.EqMixed.ne_str_int (fin_bl I q (by simp))
    | str j => obtain ⟨t', rfl⟩ := ry; exact ne_str (fin_bl I q (congrArg not dec_str))
    | _ => exact absurd (show false = true from hs) Bool.false_ne_true
  | byt i =>
    obtain ⟨t, rfl⟩ := rx
    cases y with
    | byt j => obtain ⟨t', rfl⟩ := ry; exact PySem.W.ne_bytes (fin_bl I q (congrArg not dec_byt))
    | _ => exact absurd (show false = true from hs) Bool.false_ne_true
  | _ => cases y <;> exact absurd (show false = true from hs) Bool.false_ne_true

theorem op_lt : OpR X (compareOp .Lt) (rI0 fun i j => .bl (decide (i < j))) := opB0 fun _ _ _ _ _ _ _ q => lt_int q
theorem op_le : OpR X (compareOp .LtE) (rI0 fun i j => .bl (decide (i ≤ j))) := opB0 fun _ _ _ _ _ _ _ q => le_int q
theorem op_gt : OpR X (compareOp .Gt) (rI0 fun i j => .bl (decide (j < i))) := opB0 fun _ _ _ _ _ _ _ q => gt_int q
theorem op_ge : OpR X (compareOp .GtE) (rI0 fun i j => .bl (decide (j ≤ i))) := opB0 fun _ _ _ _ _ _ _ q => ge_int q




theorem nomark (b : Expr) {op : CmpOp} (h : op ≠ .In := by decide) (h2 : op ≠ .NotIn := by decide) : behindInMarks op b = false := by
  have e1 : (op == CmpOp.In) = false := by cases op <;> first | rfl | exact absurd rfl h
  have e2 : (op == CmpOp.NotIn) = false := by cases op <;> first | rfl | exact absurd rfl h2
  cases b <;> simp [behindInMarks, e1, e2]
/-- a comparison as a value; hm: nomark b, or (for in, not in) by with_unfolding_all rfl -/
theorem pe_cmpR {op : CmpOp} {r : R2} (ho : OpR X (compareOp op) r) (ha : PE X a ta) (hb : PE X b tb) (hm : behindInMarks op b = false) : PE X (.Compare a [op] [b] pos) (tOp r ta tb) := by
  intro pins s σ H Q I h
  exact wpAny_Compare1 (binT ha hb I h fun v u s2 x y H2 I2 rx ry q => ho pins s2 σ H2 x y v u Q I2 rx ry q) hm
/-- a reading of a value as a test -/
def tTest (t : TE) : TT := fun σ H Q => t σ H fun x H' => ∃ k, x = .bl k ∧ Q k H'
theorem pt_cmpR {op : CmpOp} {r : R2} (ho : OpR X (compareOp op) r) (ha : PE X a ta) (hb : PE X b tb) (hm : behindInMarks op b = false) : PT X (.Compare a [op] [b] pos) (tTest (tOp r ta tb)) := by
  intro pins s σ H Q I h
  refine wpAny_isTrue_Compare1 (thn (ha pins s σ H _ I h) fun v s1 ⟨x, H1, I1, r1, q1⟩ => thn (hb pins s1 σ H1 _ I1 q1) fun u s2 ⟨y, H2, I2, r2, q2⟩ =>
    thn (ho pins s2 σ H2 x y v u _ I2 r1 r2 q2) fun c s3 ⟨z, H3, I3, r3, k, e, q3⟩ => ?_) hm
  subst e
  cases r3
  exact wpAny_truthy_bool ⟨H3, I3, q3⟩
/-- a op1 b op2 c -/
def tChain (r r' : R2) (ta tb tc : TE) : TE := fun σ H Q => ta σ H fun x H1 => tb σ H1 fun y H2 => r x y H2 fun z H3 => ∃ k, z = .bl k ∧
  (if k = true then tc σ H3 fun w' H4 => r' y w' H4 Q else Q (.bl false) H3)
theorem pe_chain {op op' : CmpOp} {r r' : R2} (ho : OpR X (compareOp op) r) (ho' : OpR X (compareOp op') r') (ha : PE X a ta) (hb : PE X b tb) (hc : PE X c tc)
    (hm : lastMarks [op, op'] [b, c] = false := by with_unfolding_all rfl) : PE X (.Compare a [op, op'] [b, c] pos) (tChain r r' ta tb tc) := by
  intro pins s σ H Q I h
  refine Compare_chain (thn (ha pins s σ H _ I h) fun v s1 ⟨x, H1, I1, r1, q1⟩ => chain_link (thn (hb pins s1 σ H1 _ I1 q1) fun u s2 ⟨y, H2, I2, r2, q2⟩ =>
    thn (ho pins s2 σ H2 x y v u _ I2 r1 r2 q2) fun d s3 ⟨z, H3, I3, r3, k, e, q3⟩ => ?_)) hm
  subst e
  cases r3
  refine wpAny_truthy_bool ?_
  cases k with
  | false => exact ite_ff ⟨.bl false, H3, I3, rfl, q3⟩
  | true => exact ite_tt (chain_last (thn (hc pins s3 σ H3 _ I3 q3) fun w' s4 ⟨z', H4, I4, r4, q4⟩ => ho' pins s4 σ H4 y z' u w' Q I4 r2 r4 q4))

/-! ### truth -/
theorem line63 : (sizeLine : Nat) < 2 ^ 63 := by rw [sizeLine_eq]; decide

/-! ### strs and bytes -/


/-! ### scalar builtins, by CallR -/
theorem vals1 {x : V} {us : List Value} (r : Vals [x] us) : ∃ u, us = [u] ∧ RelV x u := by
  cases r with
  | cons r1 r2 => cases r2; exact ⟨_, rfl, r1⟩
theorem vals2 {x y : V} {us : List Value} (r : Vals [x, y] us) : ∃ u w', us = [u, w'] ∧ RelV x u ∧ RelV y w' := by
  cases r with
  | cons r1 r2 =>
    cases r2 with
    | cons r3 r4 => cases r4; exact ⟨_, _, rfl, r1, r3⟩
theorem call_abs : CallR X (.builtin "abs") (fun xs H Q => ∃ i, xs = [.int i] ∧ Q (.int (if i < 0 then -i else i)) H) := by
  intro pins s σ H xs us Q I r h
  obtain ⟨i, rfl, q⟩ := h
  obtain ⟨u, rfl, t, rfl⟩ := vals1 r
  exact call_abs_int fun u tk => ⟨.int (if i < 0 then -i else i), H, I.tok _, ⟨_, rfl⟩, q⟩
theorem call_max2 (hc : X.calm = true) : CallR X (.builtin "max") (fun xs H Q => ∃ i j, xs = [.int i, .int j] ∧ Q (.int (if j > i then j else i)) H) := by
  intro pins s σ H xs us Q I r h
  obtain ⟨i, j, rfl, q⟩ := h
  obtain ⟨u, w', rfl, ⟨t, rfl⟩, ⟨t', rfl⟩⟩ := vals2 r
  refine max_two_ints (I.ok.hd hc) fun h' tk k => ⟨_, H, I.kept k, ?_, q⟩
  by_cases hj : j > i
  · rw [if_pos hj, if_pos hj]; exact ⟨_, rfl⟩
  · rw [if_neg hj, if_neg hj]; exact ⟨_, rfl⟩
theorem call_min2 (hc : X.calm = true) : CallR X (.builtin "min") (fun xs H Q => ∃ i j, xs = [.int i, .int j] ∧ Q (.int (if j < i then j else i)) H) := by
  intro pins s σ H xs us Q I r h
  obtain ⟨i, j, rfl, q⟩ := h
  obtain ⟨u, w', rfl, ⟨t, rfl⟩, ⟨t', rfl⟩⟩ := vals2 r
  refine min_two_ints (I.ok.hd hc) fun h' tk k => ⟨_, H, I.kept k, ?_, q⟩
  by_cases hj : j < i
  · rw [if_pos hj, if_pos hj]; exact ⟨_, rfl⟩
  · rw [if_neg hj, if_neg hj]; exact ⟨_, rfl⟩
theorem call_int1 : CallR X (.type "int") (fun xs H Q => (∃ i, xs = [.int i] ∧ Q (.int i) H) ∨ ∃ k, xs = [.bl k] ∧ Q (.int (if k then 1 else 0)) H) := by
  intro pins s σ H xs us Q I r h
  rcases h with ⟨i, rfl, q⟩ | ⟨k, rfl, q⟩
  · obtain ⟨u, rfl, t, rfl⟩ := vals1 r
    exact call_int_int ⟨.int i, H, I, ⟨_, rfl⟩, q⟩
  · obtain ⟨u, rfl, r1⟩ := vals1 r
    cases r1
    exact call_int_bool ⟨.int (if k then 1 else 0), H, I.tok _, ⟨_, rfl⟩, q⟩
end
end L2

namespace L2
open PySem PySem.Spec PyProof.Rows

/-! ### an instance, its attributes a map -/
structure ObjM (h : Heap) (x dx C : Addr) (mA : Str → Option Value) : Prop where
  obj : h.get? x = some (PySem.W.instObj C dx)
  ns : h.Ns1 dx mA
  ne : dx ≠ x

theorem lookIn_ns {h : Heap} {dx : Addr} {mA : Str → Option Value} (n : h.Ns1 dx mA) : ∃ od, h.get? dx = some od ∧ ∀ name, PySem.W.lookIn name od = some (mA name) := by
  obtain ⟨o, es, ep, ho, hd, hk, _, hm⟩ := n
  refine ⟨o, ho, fun name => ?_⟩
  have e := hm name
  unfold nsFind findBy at e
  rw [← Array.find?_toList] at e
  unfold PySem.W.lookIn
  rw [hd]
  dsimp only
  split
  · rename_i y q
    rw [q] at e
    exact congrArg some e
  · rename_i q
    rw [q] at e
    have a : es.toList.any (·.refKey) = false := by
      rw [List.any_eq_false]
      intro y hy
      obtain ⟨z, t, hkey⟩ := hk y (Array.mem_toList_iff.mp hy)
      simp [DictEntry.refKey, hkey]
    have a' : ¬ es.toList.any (·.refKey) = true := by rw [a]; exact Bool.false_ne_true
    rw [if_neg a']
    exact congrArg some e

theorem ObjM.look {h : Heap} {x dx C : Addr} {mA : Str → Option Value} (I : ObjM h x dx C mA) : ∃ od, PySem.W.InstAt h x (PySem.W.instObj C dx) C (some od) ∧ ∀ name, PySem.W.lookIn name od = some (mA name) :=
  let ⟨od, ho, hl⟩ := lookIn_ns I.ns
  ⟨od, ⟨I.obj, rfl, rfl, ho⟩, hl⟩

section
variable {prog : Program} {w : World} {A : Around} {E : Value → Shared → Prop} {s : Shared} {K : PySem.W.Frag} {x dx C f : Addr} {mA : Str → Option Value} {name : Str} {v : Value}

theorem get_map {expr : Bool} {Q : Value → Shared → Prop} (X : K.In s.heap) (I : ObjM s.heap x dx C mA) (hg : PySem.W.plainGet K C name = true) (hh : PySem.W.hasDictIn K C = true)
    (ha : PySem.W.findIn K (.ref C) name = some none) (hv : mA name = some v) (hv' : PySem.W.handedIn v = true) (h : Q v { s with toks := s.toks + 1 }) :
    wpAny (model prog w) A (getAttr (.ref x) name expr) Q E s := by
  obtain ⟨od, J, hl⟩ := I.look
  exact PySem.W.get_value X J (PySem.W.plainGet_of hg).1 (PySem.W.findObj_own hh ha rfl (by rw [hl, hv])) hv' h


theorem get_meth {pl : Sem Bool} {Q : Value × List Value → Shared → Prop} (X : K.In s.heap) (I : ObjM s.heap x dx C mA) (hg : PySem.W.plainGet K C name = true)
    (hf : PySem.W.findIn K (.ref C) name = some (some (.ref f))) (ht : PySem.W.isFn K (.ref f) = true) (hv : mA name = none) (h : Q (.ref f, [.ref x]) s) :
    wpAny (model prog w) A (getMethod (.ref x) name pl) Q E s := by
  obtain ⟨od, J, hl⟩ := I.look
  exact PySem.W.method_fn X J (PySem.W.plainGet_of hg).1 (PySem.W.plainGet_of hg).2 hf (beq_iff_eq.mp ht) (by show (PySem.W.lookIn name od).map (·.isSome) = some false; rw [hl, hv]; rfl) h

theorem set_map {ns : List Str} {Q : Unit → Shared → Prop} (X : K.In s.heap) (I : ObjM s.heap x dx C mA)
    (hs : PySem.W.findIn K (.ref C) "__setattr__" = some (some (.builtin "object.__setattr__"))) (hp : PySem.W.plainOver K C = true) (ht : PySem.W.takerIn K C name = some none) (hh : PySem.W.hasDictIn K C = true)
    (hw : PySem.Within mA ns) (hsz : ns.length ≤ sizeLine)
    (h : ∀ h', ObjM h' x dx C (fun y => if y = name then some v else mA y) → Heap.SameBut dx s.heap h' → Q () { s with heap := h', toks := s.toks + 2 }) :
    wpAny (model prog w) A (setAttr (.ref x) name v) Q E s := by
  obtain ⟨od, J, hl⟩ := I.look
  refine PySem.W.set_plain X J hs (PySem.W.osa_open (s := { s with toks := s.toks + 1 }) (r := none) X J hp ht fun b => ?_)
  obtain ⟨cd, hc, hd'⟩ := PySem.W.any_some hh
  have hx : s.heap.get? x = some ⟨.ref C, some dx, .plain, #[]⟩ := I.obj
  refine wpAny_bind (wpAny_pure (wpAny_bind (wpAny_bind (wpAny_loadPart hx (wpAny_bind (PySem.W.Looks.here (s := { s with toks := s.toks + 1 }) (PySem.W.looks_clsIn X hc) ?_))))))
  rw [hd']
  refine wpAny_pure (a := some dx) (wpAny_bind (wpAny_pure (wpAny_bind ?_)))
  refine wpAny_nsSet1 (s := { s with toks := s.toks + 1 }) I.ns fun h' hn2 hs2 => ?_
  obtain ⟨oD, esD, epD, hoD, hdD, hcD⟩ := hn2.count (PySem.Within.cons name v hw)
  refine wpAny_bind (wpAny_lookBehind hoD (by rw [hdD]; exact pastItsLine_dict (Nat.le_trans hcD (by rw [List.length_cons]; omega))) ?_)
  exact wpAny_pure (h _ ⟨(hs2.2 _ (Ne.symm I.ne)).trans I.obj, hn2, I.ne⟩ hs2)

/-- C(..): the dict at the heap's end, the instance behind it; then its __init__ -/
theorem make_map {R : Result → Shared → Prop} {vs : List Value} {kw : List (Str × Value)} (X : K.In s.heap) (hm : PySem.W.makesIn K C = true)
    (hi : PySem.W.findIn K (.ref C) "__init__" = some (some (.ref f))) (hf : PySem.W.typeIn K (.ref f) = some (.type "function"))
    (h : codeAny (model prog w) (A.under (.builtin "type.__call__" ⟨.ref C :: vs, kw⟩)) (.call (.ref f) ⟨.ref (s.heap.objs.size + 1) :: vs, kw⟩) (PySem.W.InitBack (s.heap.objs.size + 1) R)
      { s with heap := (s.heap.push PySem.W.emptyDict).push (PySem.W.instObj C s.heap.objs.size) }) :
    codeAny (model prog w) A (.call (.ref C) ⟨vs, kw⟩) R s := by
  obtain ⟨hh, g, d, t, os⟩ := s
  exact PySem.W.make_core (PySem.W.makes_of X hm) (PySem.W.looks_findIn X hi) (fun self => PySem.W.bind_fn X self hf) (.inl rfl) h
/-- C() where there is no __init__ but object's -/
theorem make_map0 {R : Result → Shared → Prop} (X : K.In s.heap) (hm : PySem.W.makesIn K C = true)
    (hi : PySem.W.findIn K (.ref C) "__init__" = some (some (.builtin "object.__init__")))
    (hb : ∀ self, PySem.W.Looks (model prog w) s.heap (bindSpecial (.builtin "object.__init__") self) (.builtin "object.__init__", [self]))
    (h : codeAny (model prog w) (A.under (.builtin "type.__call__" ⟨[.ref C], []⟩)) (.call (.builtin "object.__init__") ⟨[.ref (s.heap.objs.size + 1)], []⟩) (PySem.W.InitBack (s.heap.objs.size + 1) R)
      { s with heap := (s.heap.push PySem.W.emptyDict).push (PySem.W.instObj C s.heap.objs.size) }) :
    codeAny (model prog w) A (.call (.ref C) ⟨[], []⟩) R s := by
  obtain ⟨hh, g, d, t, os⟩ := s
  exact PySem.W.make_core (PySem.W.makes_of X hm) (PySem.W.looks_findIn X hi) hb (.inr ⟨rfl, rfl⟩) h
end

/-! ### the attributes as a list of pairs -/
def putF (f : Str) (v : V) : List (Str × V) → List (Str × V)
  | [] => [(f, v)]
  | (g, x) :: r => if g = f then (g, v) :: r else (g, x) :: putF f v r
theorem lookup_putF (f g : Str) (v : V) : ∀ fs : List (Str × V), (putF f v fs).lookup g = if g = f then some v else fs.lookup g
  | [] => by
    show List.lookup g [(f, v)] = _
    by_cases h : g = f
    · have hb : (g == f) = true := beq_iff_eq.mpr h
      simp only [List.lookup, hb, if_pos h]
    · have hb : (g == f) = false := beq_eq_false_iff_ne.mpr h
      simp only [List.lookup, hb, if_neg h]
  | (k, x) :: r => by
    have ih := lookup_putF f g v r
    rw [show putF f v ((k, x) :: r) = (if k = f then (k, v) :: r else (k, x) :: putF f v r) from rfl]
    by_cases hk : k = f
    · rw [if_pos hk]
      by_cases h : g = k
      · have hb : (g == k) = true := beq_iff_eq.mpr h
        simp only [List.lookup, hb, if_pos (h.trans hk)]
      · have hb : (g == k) = false := beq_eq_false_iff_ne.mpr h
        simp only [List.lookup, hb, if_neg (fun e : g = f => h (e.trans hk.symm))]
    · rw [if_neg hk]
      by_cases h : g = k
      · have hb : (g == k) = true := beq_iff_eq.mpr h
        simp only [List.lookup, hb, if_neg (fun e : g = f => hk (h.symm.trans e))]
      · have hb : (g == k) = false := beq_eq_false_iff_ne.mpr h
        simp only [List.lookup, hb]
        exact ih
theorem keys_putF (f : Str) (v : V) : ∀ fs : List (Str × V), f ∈ (putF f v fs).map (·.1) ∧ ∀ g, g ∈ fs.map (·.1) → g ∈ (putF f v fs).map (·.1)
  | [] => ⟨by simp [putF], fun g h => by simp at h⟩
  | (k, x) :: r => by
    obtain ⟨i1, i2⟩ := keys_putF f v r
    rw [show putF f v ((k, x) :: r) = (if k = f then (k, v) :: r else (k, x) :: putF f v r) from rfl]
    by_cases hk : k = f
    · rw [if_pos hk]
      subst hk
      exact ⟨by simp, fun g h => by simpa using h⟩
    · rw [if_neg hk]
      refine ⟨?_, fun g h => ?_⟩
      · rw [List.map_cons]
        exact List.mem_cons_of_mem _ i1
      · rw [List.map_cons] at h ⊢
        rcases List.mem_cons.mp h with e | e
        · exact List.mem_cons.mpr (.inl e)
        · exact List.mem_cons_of_mem _ (i2 g e)
theorem length_putF (f : Str) (v : V) : ∀ fs : List (Str × V), (putF f v fs).length ≤ fs.length + 1
  | [] => by simp [putF]
  | (k, x) :: r => by
    have ih := length_putF f v r
    rw [show putF f v ((k, x) :: r) = (if k = f then (k, v) :: r else (k, x) :: putF f v r) from rfl]
    by_cases hk : k = f
    · rw [if_pos hk, List.length_cons, List.length_cons]; omega
    · rw [if_neg hk, List.length_cons, List.length_cons]; omega

theorem RelO.some_of {v : V} {o : Option Value} (r : RelO (some v) o) : ∃ u, o = some u ∧ RelV v u := by
  cases o with
  | none => exact (show False from r).elim
  | some u => exact ⟨u, rfl, r⟩
theorem RelO.none_of {o : Option Value} (r : RelO none o) : o = none := by
  cases o with
  | none => rfl
  | some u => exact (show False from r).elim
theorem handed_of {v : V} {u : Value} (r : RelV v u) : PySem.W.handedIn u = true := by
  cases v with
  | non => cases (show u = Value.none from r); rfl
  | bl b => cases (show u = Value.bool b from r); rfl
  | int i => obtain ⟨t, e⟩ := (show ∃ t, u = Value.int i t from r); cases e; rfl
  | str x => obtain ⟨t, e⟩ := (show ∃ t, u = Value.str x t from r); cases e; rfl
  | byt b => obtain ⟨t, e⟩ := (show ∃ t, u = Value.bytes b t from r); cases e; rfl
  | flt b => obtain ⟨t, e⟩ := (show ∃ t, u = Value.float b t from r); cases e; rfl
  | ref a => cases (show u = Value.ref a from r); rfl
  | ty n => cases (show u = Value.type n from r); rfl

section
variable {P : Program} {w : World} {H H' : Hp} {h h' : Heap} {a C dx : Addr} {fs fs' : List (Str × V)}
theorem ins_get (hok : HOk P w H h) (e : H a = some (.ins C dx fs)) : ∃ mA, ObjM h a dx C mA ∧ (∀ f, RelO (fs.lookup f) (mA f)) ∧ PySem.Within mA (fs.map (·.1)) ∧ fs.length ≤ 1000 ∧ H dx = some (.own a) := by
  obtain ⟨d, z, ne, ob, mA, n, r, q⟩ := (show ObjOk P w H h a (.ins C dx fs) from hok a _ e)
  exact ⟨mA, ⟨ob, n, ne⟩, r, q, z, d⟩
end

/-! ### what of the text a class must have -/
structure Cls (K : PySem.W.Frag) (C : Addr) : Prop where
  pg : PySem.W.plainGet K C Str.empty = true
  hd : PySem.W.hasDictIn K C = true
  po : PySem.W.plainOver K C = true
  sa : PySem.W.findIn K (.ref C) "__setattr__" = some (some (.builtin "object.__setattr__"))
theorem Cls.get {K : PySem.W.Frag} {C : Addr} (c : Cls K C) (f : Str) : PySem.W.plainGet K C f = true := c.pg
/-- no class of it has the name -/
def NoAttr (K : PySem.W.Frag) (C : Addr) (f : Str) : Prop := PySem.W.findIn K (.ref C) f = some none
theorem NoAttr.taker {K : PySem.W.Frag} {C : Addr} {f : Str} (n : NoAttr K C f) : PySem.W.takerIn K C f = some none := by
  unfold PySem.W.takerIn
  rw [show PySem.W.findIn K (.ref C) f = some none from n]
  rfl
/-- a method: a plain def of the class or of one above it -/
structure Meth (K : PySem.W.Frag) (C : Addr) (m : Str) (f : Addr) : Prop where
  at_ : PySem.W.findIn K (.ref C) m = some (some (.ref f))
  fn : PySem.W.isFn K (.ref f) = true
  kp : PySem.W.keepIn K (.ref f) = true

section
variable {X : Cx} {pins : List (Addr × Obj)} {σ : St} {H : Hp} {s : Shared} {a C dx : Addr} {fs : List (Str × V)} {f : Str} {v : V} {A : Around} {E : Value → Shared → Prop}

theorem getattr_ok {b : Bool} {Q : Value → Shared → Prop} (I : Inv X pins σ H s) (e : H a = some (.ins C dx fs)) (c : Cls X.K C) (n : NoAttr X.K C f) (l : fs.lookup f = some v)
    (h : ∀ u s', Inv X pins σ H s' → RelV v u → Q u s') : wpAny (model X.prog X.w) A (getAttr (.ref a) f b) Q E s := by
  obtain ⟨mA, O, r, _, _, _⟩ := ins_get I.hok e
  obtain ⟨u, hu, ru⟩ := RelO.some_of (v := v) (o := mA f) (by rw [← l]; exact r f)
  exact get_map I.kIn O (c.get f) c.hd n hu (handed_of ru) (h u _ (I.tok _) ru)


theorem getmeth_ok {m : Str} {g : Addr} {pl : Sem Bool} {Q : Value × List Value → Shared → Prop} (I : Inv X pins σ H s) (e : H a = some (.ins C dx fs)) (c : Cls X.K C) (k : Meth X.K C m g) (l : fs.lookup m = none)
    (h : Q (.ref g, [.ref a]) s) : wpAny (model X.prog X.w) A (getMethod (.ref a) m pl) Q E s := by
  obtain ⟨mA, O, r, _, _, _⟩ := ins_get I.hok e
  have hn : mA m = none := RelO.none_of (by rw [← l]; exact r m)
  exact get_meth I.kIn O (c.get m) k.at_ k.fn hn h

theorem setattr_ok {y : V} {u : Value} {Q : Unit → Shared → Prop} (I : Inv X pins σ H s) (e : H a = some (.ins C dx fs)) (c : Cls X.K C) (n : NoAttr X.K C f) (hl : fs.length < 1000) (ry : RelV y u)
    (h : ∀ s', Inv X pins σ (upd H a (.ins C dx (putF f y fs))) s' → Q () s') : wpAny (model X.prog X.w) A (setAttr (.ref a) f u) Q E s := by
  obtain ⟨mA, O, r, wi, _, ho⟩ := ins_get I.hok e
  have hz : (fs.map (·.1)).length ≤ sizeLine := by rw [List.length_map, sizeLine_eq]; omega
  refine set_map I.kIn O c.sa c.po n.taker c.hd wi hz fun h' O' sb => h _ ?_
  have hd : ∃ o, h'.get? dx = some o := let ⟨o, _, _, e', _⟩ := O'.ns; ⟨o, e'⟩
  refine I.write (x := a) (e := dx) (by rw [e]; exact True.intro) (.inr ho) (fun b q hb z => (sb.2 b hb).trans z) hd ?_
  refine ⟨by rw [upd_ne O.ne]; exact ho, ?_, O.ne, O'.obj, _, O'.ns, fun g => ?_, fun g hg => ?_⟩
  · have := length_putF f y fs; omega
  · show RelO ((putF f y fs).lookup g) (if g = f then some u else mA g)
    rw [lookup_putF]
    by_cases q : g = f
    · rw [if_pos q, if_pos q]; exact ry
    · rw [if_neg q, if_neg q]; exact r g
  · by_cases q : g = f
    · rw [q]; exact (keys_putF f y fs).1
    · refine (keys_putF f y fs).2 g (wi g fun z => hg ?_)
      show (if g = f then some u else mA g) = none
      rw [if_neg q]; exact z

/-- a new instance, tracked, without attributes -/
theorem Inv.made (I : Inv X pins σ H s) : Inv X pins σ (upd (upd H s.heap.objs.size (.own (s.heap.objs.size + 1))) (s.heap.objs.size + 1) (.ins C s.heap.objs.size []))
    { s with heap := (s.heap.push PySem.W.emptyDict).push (PySem.W.instObj C s.heap.objs.size) } := by
  have e1 : (s.heap.push PySem.W.emptyDict).get? s.heap.objs.size = some PySem.W.emptyDict := Heap.get?_push_size s.heap rfl
  have e2 : ((s.heap.push PySem.W.emptyDict).push (PySem.W.instObj C s.heap.objs.size)).get? (s.heap.objs.size + 1) = some (PySem.W.instObj C s.heap.objs.size) := by
    have := Heap.get?_push_size (s.heap.push PySem.W.emptyDict) (o := PySem.W.instObj C s.heap.objs.size) rfl
    rwa [Heap.size_push] at this
  have e3 : (s.heap.push PySem.W.emptyDict).Ns s.heap.objs.size (fun _ => none) := ⟨PySem.W.emptyDict, #[], _, e1, rfl, (fun e he => absurd he (by simp)), fun _ => rfl⟩
  have I1 := I.laid (a := s.heap.objs.size) (o := .own (s.heap.objs.size + 1)) (h' := s.heap.push PySem.W.emptyDict) (t' := s.toks) (fun b u q => Heap.get?_push_of_some _ q) (Nat.le_refl _) ⟨_, e1⟩
  refine I1.laid (a := s.heap.objs.size + 1) (o := .ins C s.heap.objs.size []) (t' := s.toks) (fun b u q => Heap.get?_push_of_some _ q) (Nat.le_of_eq (Heap.size_push _ _)) ?_
  have ne : s.heap.objs.size ≠ s.heap.objs.size + 1 := Nat.ne_of_lt (Nat.lt_succ_self _)
  refine ⟨by rw [upd_ne ne, upd_same], Nat.zero_le _, ne, e2, fun _ => none, (Heap.Ns1.of_empty e3).at fun o q => Heap.get?_push_of_some _ q, fun _ => True.intro, fun y hy => absurd rfl hy⟩

/-- e.f where nothing but the object is asked: through attributeBase (super) and the last hold -/
theorem attr_of {prog : Program} {w : World} {env : Env} {e : Expr} {f : Str} {pos : Pos} {s : Shared} {Q : Value → Shared → Prop} (hb : attributeBase e f env (eval e env) = eval e env)
    (h : wpAny (model prog w) A (eval e env) (fun o s₁ => wpAny (model prog w) A (getAttr o f true) Q E s₁) E s) : wpAny (model prog w) A (eval (.Attribute e f pos) env) Q E s :=
  Attribute_any_ h (by rw [arm_eval_Attribute, hb])
end

/-! ### readings and rules -/
/-- e.f, an attribute of the instance -/
def tFld (K : PySem.W.Frag) (ta : TE) (f : Str) : TE := fun σ H Q => ta σ H fun x H1 => ∃ a C dx fs v, x = .ref a ∧ H1 a = some (.ins C dx fs) ∧ Cls K C ∧ NoAttr K C f ∧ fs.lookup f = some v ∧ Q v H1
/-- e.f = value -/
def sFld (K : PySem.W.Frag) (ta tv : TE) (f : Str) : TS := fun D σ H => tv σ H fun y H1 => ta σ H1 fun x H2 => ∃ a C dx fs, x = .ref a ∧ H2 a = some (.ins C dx fs) ∧ Cls K C ∧ NoAttr K C f ∧ fs.length < 1000 ∧
  D.nx σ (upd H2 a (.ins C dx (putF f y fs)))

section
variable {X : Cx} {o e value : Expr} {f : Str} {pos pos' tpos : Pos} {ta tv : TE}
theorem pe_fld (he : PE X e ta) (hb : attributeBase e f X.env (eval e X.env) = eval e X.env) : PE X (.Attribute e f pos) (tFld X.K ta f) := by
  intro pins s σ H Q I h
  refine attr_of hb (thn (he pins s σ H _ I h) fun u s1 ⟨x, H1, I1, rx, a, C, dx, fs, v, ex, ea, c, n, l, q⟩ => ?_)
  subst ex
  obtain rfl : u = Value.ref a := rx
  exact getattr_ok I1 ea c n l fun u' s2 I2 ru => ⟨v, H1, I2, ru, q⟩
theorem ps_fld (ha : PE X o ta) (hv : PE X value tv) (hs : swapsWith value (some (.Attribute o f pos')) pos.line X.env = pure false) : PS X (.Assign [.Attribute o f pos'] value pos) (sFld X.K ta tv f) := by
  intro pins s σ H D I h
  refine plainObj_wpAny_Assign_Attribute (thn (hv pins s σ H _ I h) fun u s1 ⟨y, H1, I1, ry, q⟩ => thn (ha pins s1 σ H1 _ I1 q) fun ov s2 ⟨x, H2, I2, rx, a, C, dx, fs, ex, ea, c, n, l, q2⟩ => ?_) hs
  subst ex
  obtain rfl : ov = Value.ref a := rx
  exact setattr_ok I2 ea c n l ry fun s3 I3 => ⟨σ, _, I3, q2⟩

/-- what is between an instance and its method: the tree of a method call -/
theorem methcall_of {pl : Sem Bool} {m : Str} {apos : Pos} {args : List Expr} {pins : List (Addr × Obj)} {s : Shared} {σ : St} {H : Hp} {Q : Value → Shared → Prop} {te : TE} (he : PE X e te) (I : Inv X pins σ H s)
    (h : te σ H fun x H1 => ∃ a C dx fs g, x = .ref a ∧ H1 a = some (.ins C dx fs) ∧ Cls X.K C ∧ Meth X.K C m g ∧ fs.lookup m = none ∧
      ∀ s1, Inv X pins σ H1 s1 → wpAny (model X.prog X.w) X.A (callWith pos (.ref g) [.ref a] (backTo pos (starEach args X.env)) (backToKw pos (keywordEach [] X.env))) Q X.xe s1)
    (ht : eval (.Call (.Attribute e m apos) args [] pos) X.env = (do
      let ov ← eval e X.env
      standAt apos.atName
      let (f, first) ← holding [ov] (getMethod ov m pl)
      callWith pos f first (backTo pos (starEach args X.env)) (backToKw pos (keywordEach [] X.env)))) :
    wpAny (model X.prog X.w) X.A (eval (.Call (.Attribute e m apos) args [] pos) X.env) Q X.xe s := by
  refine PySem.W.methodCall_KW (pl := pl) (thn (he pins s σ H _ I h) fun u s1 ⟨x, H1, I1, rx, a, C, dx, fs, g, ex, ea, c, k, l, q⟩ => ?_) ht
  subst ex
  obtain rfl : u = Value.ref a := rx
  exact getmeth_ok I1 ea c k l (q s1 I1)
end

/-! ### isinstance -/
section
variable {X : Cx} {pins : List (Addr × Obj)} {σ : St} {H : Hp} {s : Shared} {A : Around} {E : Value → Shared → Prop} {Q : Value → Shared → Prop} {c : Value} {b : Bool}
/-- the type of a value, as the fragment's deciders take it; for an instance its class -/
inductive TyOf (K : PySem.W.Frag) (H : Hp) : V → Value → Prop where
  | non : TyOf K H .non (.type "NoneType")
  | bl (x : Bool) : TyOf K H (.bl x) (.type "bool")
  | int (i : Int) : TyOf K H (.int i) (.type "int")
  | str (x : Str) : TyOf K H (.str x) (.type "str")
  | flt (x : UInt64) : TyOf K H (.flt x) (.type "float")
  | lst {a : Addr} {xs : List V} (e : H a = some (.lst xs)) : TyOf K H (.ref a) (.type "list")
  | frz {a : Addr} {o : Obj} {xs : List V} (e : H a = some (.frz o (.lst xs))) : TyOf K H (.ref a) (.type "list")
  | tup {a : Addr} {xs : List V} (e : H a = some (.tup xs)) : TyOf K H (.ref a) (.type "tuple")
  | dK {a : Addr} {kvs : List (Key × V)} (e : H a = some (.dK kvs)) : TyOf K H (.ref a) (.type "dict")
  | dT {a : Addr} {kvs : List (List Key × V)} (e : H a = some (.dT kvs)) : TyOf K H (.ref a) (.type "dict")
  | ins {a C dx : Addr} {fs : List (Str × V)} (e : H a = some (.ins C dx fs)) (cl : Cls K C) (ha : PySem.W.findIn K (.ref C) "__class__" = some (some (.builtin "object.__class__")))
      (hn : PySem.W.specialIn K (.builtin "object.__class__") "__get__" = some (some (.builtin "getset_descriptor.__get__"))) (htk : PySem.W.takesIn K (.builtin "object.__class__") = some true)
      (hm : PySem.W.mroIn K C (.type "object") = some true) : TyOf K H (.ref a) (.ref C)
/-- isinstance(x, c) for one class c, a built-in or an own one: kitOne's answer -/
theorem isinst_ok {x : V} {u t : Value} (I : Inv X pins σ H s) (rx : RelV x u) (ty : TyOf X.K H x t) (e : PySem.W.kitOne X.K t c = some b) (h : ∀ tk, Q (.bool b) { s with toks := tk }) :
    wpAny (model X.prog X.w) A (call (.builtin "isinstance") [u, c]) Q E s := by
  cases ty with
  | non => cases (show u = Value.none from rx); exact PySem.W.kia_one PySem.W.kitx_none I.kIn True.intro e (fun z => nomatch z) h
  | bl y => cases (show u = Value.bool y from rx); exact PySem.W.kia_one PySem.W.kitx_bool I.kIn True.intro e (fun z => nomatch z) h
  | int i => obtain ⟨t, q⟩ := (show ∃ t, u = Value.int i t from rx); cases q; exact PySem.W.kia_one PySem.W.kitx_int I.kIn True.intro e (fun z => nomatch z) h
  | str y => obtain ⟨t, q⟩ := (show ∃ t, u = Value.str y t from rx); cases q; exact PySem.W.kia_one PySem.W.kitx_str I.kIn True.intro e (fun z => nomatch z) h
  | flt y => obtain ⟨t, q⟩ := (show ∃ t, u = Value.float y t from rx); cases q; exact PySem.W.kia_one PySem.W.kitx_float I.kIn True.intro e (fun z => nomatch z) h
  | @lst a xs ea =>
    cases (show u = Value.ref a from rx)
    obtain ⟨_, _, n, _, h1⟩ := (show ObjOk X.prog X.w H s.heap a (.lst xs) from I.hok a _ ea)
    exact PySem.W.kia_one PySem.W.kitx_list I.kIn ⟨_, h1, rfl⟩ e (fun z => nomatch z) h
  | @frz a ob xs ea =>
    cases (show u = Value.ref a from rx)
    obtain ⟨_, _, _, n, _, h1⟩ := (show ObjOk X.prog X.w H s.heap a (.frz ob (.lst xs)) from I.hok a _ ea)
    exact PySem.W.kia_one PySem.W.kitx_list I.kIn ⟨_, h1, rfl⟩ e (fun z => nomatch z) h
  | @tup a xs ea =>
    cases (show u = Value.ref a from rx)
    obtain ⟨_, _, _, p⟩ := (show ObjOk X.prog X.w H s.heap a (.tup xs) from I.hok a _ ea)
    obtain ⟨o, h1, h2, _⟩ := p
    exact PySem.W.kia_one PySem.W.kitx_tuple I.kIn ⟨o, h1, h2⟩ e (fun z => nomatch z) h
  | @dK a kvs ea =>
    cases (show u = Value.ref a from rx)
    obtain ⟨_, _, vs, _, p⟩ := (show ObjOk X.prog X.w H s.heap a (.dK kvs) from I.hok a _ ea)
    obtain ⟨o, es, ep, h1, h2, _⟩ := p
    exact PySem.W.kia_one PySem.W.kitx_dict I.kIn ⟨o, h1, h2.1⟩ e (fun z => nomatch z) h
  | @dT a kvs ea =>
    cases (show u = Value.ref a from rx)
    obtain ⟨_, _, xs, _, o, es, ep, h1, h2, _⟩ := (show ObjOk X.prog X.w H s.heap a (.dT kvs) from I.hok a _ ea)
    exact PySem.W.kia_one PySem.W.kitx_dict I.kIn ⟨o, h1, h2.1⟩ e (fun z => nomatch z) h
  | @ins a C dx fs ea cl ha hn htk hm =>
    cases (show u = Value.ref a from rx)
    obtain ⟨mA, O, _⟩ := ins_get I.hok ea
    obtain ⟨od, J, _⟩ := O.look
    exact PySem.W.kia_one (PySem.W.kitx_own (cl.get _) cl.hd ha hn htk hm) I.kIn J e (fun z => nomatch z) h
end
end L2

namespace L2
open PySem PySem.Spec PyProof.Rows

/-! ### room -/
structure Room (k : Nat) (A : Around) : Prop where
  hd : A.handled = none
  dp : A.depth + 3 * k + 5 < recursionLimit
  un : A.units + 16 * k + 200 < cLine
theorem Room.mono {j k : Nat} {A : Around} (r : Room k A) (h : j ≤ k) : Room j A := ⟨r.hd, by have := r.dp; omega, by have := r.un; omega⟩
theorem Room.deeper {k : Nat} {A : Around} (r : Room (k + 1) A) (env : Env) : Room k (A.deeper env) :=
  ⟨r.hd, by have := r.dp; show A.depth + 1 + 3 * k + 5 < _; omega, by have := r.un; show A.units + 3 + 16 * k + 200 < _; omega⟩
theorem Room.in1 {k : Nat} {A : Around} (r : Room (k + 1) A) : Room k A.in1 :=
  ⟨r.hd, by have := r.dp; show A.depth + 3 * k + 5 < _; omega, by have := r.un; show A.units + 1 + 16 * k + 200 < _; omega⟩
theorem make_depth {A : Around} {C : Addr} {us : List Value} {kw : List (Str × Value)} : (A.under (.builtin "type.__call__" ⟨.ref C :: us, kw⟩)).depth = A.depth + 1 := by
  first | rfl | simp [Around.under, Code.weight, Code.isCreation, Code.isGuard, Code.isCaller, Code.frames, Code.isFrame, guardIds]
theorem make_units {A : Around} {C : Addr} {us : List Value} {kw : List (Str × Value)} : (A.under (.builtin "type.__call__" ⟨.ref C :: us, kw⟩)).units = A.units + 1 := by
  first | rfl | simp [Around.under, Code.cUnits, Code.frames, Code.isFrame]
theorem Room.make {k : Nat} {A : Around} (r : Room (k + 1) A) (C : Addr) (us : List Value) (kw : List (Str × Value)) : Room k (A.under (.builtin "type.__call__" ⟨.ref C :: us, kw⟩)) :=
  ⟨r.hd, by have := r.dp; rw [make_depth]; omega, by have := r.un; rw [make_units]; omega⟩
theorem Room.depth {k : Nat} {A : Around} (r : Room k A) : A.depth < recursionLimit := by have := r.dp; omega
theorem Room.units {k : Nat} {A : Around} (r : Room k A) : A.units + 64 < cLine := by have := r.un; omega
theorem Room.units0 {k : Nat} {A : Around} (r : Room k A) : A.units < cLine := by have := r.un; omega

/-! ### argument lists and displays -/
def tNil : TA := fun _ H Q => Q [] H
def tCons (ta : TE) (tr : TA) : TA := fun σ H Q => ta σ H fun x H1 => tr σ H1 fun xs H2 => Q (x :: xs) H2
section
variable {X : Cx} {e : Expr} {es : List Expr} {te : TE} {t : TA} {pos : Pos}
theorem pa_nil : PA X [] tNil := fun _ _ _ _ H Q I h => Calls.spliced_nil ⟨[], H, I, .nil, h⟩
theorem pa_cons (ha : PE X e te) (hr : PA X es t) (hs : starEach (e :: es) X.env = (false, eval e X.env) :: starEach es X.env := by rfl) : PA X (e :: es) (tCons te t) := by
  intro pos pins s σ H Q I h
  rw [hs]
  show wpAny _ _ (spliced ((false, eval e X.env) :: backTo pos (starEach es X.env))) _ _ s
  refine Calls.spliced_cons (thn (ha pins s σ H _ I h) fun u s1 ⟨x, H1, I1, r1, q1⟩ => ?_)
  exact thn (hr pos pins s1 σ H1 _ I1 q1) fun us s2 ⟨xs, H2, I2, r2, q2⟩ => ⟨x :: xs, H2, I2, .cons r1 r2, q2⟩

/-- a tuple, a list of written items -/
def tTup (t : TA) : TE := fun σ H Q => t σ H fun xs H1 => xs.length ≤ sizeLine ∧ ∀ p, H1 p = none → Q (.ref p) (upd H1 p (.tup xs))
def tLst (t : TA) : TE := fun σ H Q => t σ H fun xs H1 => xs.length ≤ sizeLine ∧ ∀ p, H1 p = none → Q (.ref p) (upd H1 p (.lst xs))
theorem pe_tup {x1} (h : PA X es t) : PE X (.Tuple es x1 pos) (tTup t) := by
  intro pins s σ H Q I hq
  refine wpAny_Tuple_spliced (thn (h pos pins s σ H _ I hq) fun us s1 ⟨xs, H1, I1, r, z, q⟩ => ⟨by rw [← r.length]; exact z, ?_⟩)
  have hf : H1 s1.heap.objs.size = none := I1.hok.fresh (Nat.le_refl _)
  refine ⟨.ref s1.heap.objs.size, upd H1 s1.heap.objs.size (.tup xs), I1.laid (t' := s1.toks) (fun b u e => Heap.get?_push_of_some _ e) (Nat.le_refl _) ?_, rfl, q _ hf⟩
  exact ⟨z, us, r, ⟨_, Heap.get?_push_size _ rfl, rfl, _, rfl⟩⟩
theorem pe_lst (h : PA X es t) : PE X (.List es pos) (tLst t) := by
  intro pins s σ H Q I hq
  refine wpAny_List_spliced (thn (h pos pins s σ H _ I hq) fun us s1 ⟨xs, H1, I1, r, z, q⟩ => ⟨by rw [← r.length]; exact z, ?_⟩)
  have hf : H1 s1.heap.objs.size = none := I1.hok.fresh (Nat.le_refl _)
  refine ⟨.ref s1.heap.objs.size, upd H1 s1.heap.objs.size (.lst xs), I1.laid (t' := s1.toks) (fun b u e => Heap.get?_push_of_some _ e) (Nat.le_refl _) ?_, rfl, q _ hf⟩
  exact ⟨z, us, 0, r, Heap.get?_push_size _ rfl⟩
end

/-! ### what a def promises -/
/-- a def's promise: the bound arguments in the parameters' order, the heap, the wanted end, the wanted exception -/
abbrev Sp := List V → Hp → VK → XK → Prop
/-- how an exception lies behind a call (file 08 gives it): the callers' frames, abstract heap and state ahead of the call, the wish, the exception, the state -/
abbrev CXT := List Env → Hp → Shared → XK → Value → Shared → Prop

/-- the state at a call -/
structure Env0 (P : Program) (w : World) (K : PySem.W.Frag) (mg : Str → Option Value) (base : Heap) (A : Around) (outer : List Env) (s : Shared) (H : Hp) : Prop where
  frames : A.frames = some outer
  mod : Mod K mg base
  bs : ∀ b o, base.get? b = some o → s.heap.get? b = some o ∧ H b = none
  bsz : base.objs.size ≤ s.heap.objs.size
  funs : s.heap.FunFrames base outer
  frf : ∀ b ∈ frs outer, H b = none
  hok : HOk P w H s.heap
  bare : AllBare s.gens
/-- a call's end -/
def CE (outer : List Env) (P : Program) (w : World) (H : Hp) (s : Shared) (Q : VK) (u : Value) (s' : Shared) : Prop :=
  ∃ v H', s'.os = s.os ∧ AllBare s'.gens ∧ Un (frs outer) [] H H' s.heap s'.heap ∧ HOk P w H' s'.heap ∧ RelV v u ∧ Q v H'
def CR (CX : CXT) (outer : List Env) (P : Program) (w : World) (H : Hp) (s : Shared) (Q : VK) (E : XK) (r : Result) (s' : Shared) : Prop :=
  match r with
  | .ok (.ret u) => CE outer P w H s Q u s'
  | .ok _ => False
  | .error e => CX outer H s E e s'
structure FnOk (P : Program) (w : World) (K : PySem.W.Frag) (mg : Str → Option Value) (base : Heap) (CX : CXT) (k : Nat) (f : Addr) (fd : FuncData) (ps : List Str) (sp : Sp) : Prop where
  len : ∀ vs H Q E, sp vs H Q E → vs.length = ps.length
  run : ∀ (A : Around) (outer : List Env) (s : Shared) (H : Hp) (args : Args) (us : List Value) (vs : List V) (Q : VK) (E : XK), Room k A → Env0 P w K mg base A outer s H → BindsTo s fd args (ps.zip us) → Vals vs us → sp vs H Q E →
    codeAny (model P w) A (.call (.ref f) args) (CR CX outer P w H s Q E) s

theorem Env0.make {P : Program} {w : World} {K : PySem.W.Frag} {mg : Str → Option Value} {base : Heap} {A : Around} {outer : List Env} {s : Shared} {H : Hp} (e : Env0 P w K mg base A outer s H) (C : Addr) (us : List Value) (kw : List (Str × Value)) :
    Env0 P w K mg base (A.under (.builtin "type.__call__" ⟨.ref C :: us, kw⟩)) outer s H := ⟨by first | exact e.frames | (simpa [Around.under, Code.envs, Code.isFrame, pushEnvs] using e.frames), e.mod, e.bs, e.bsz, e.funs, e.frf, e.hok, e.bare⟩
theorem Env0.in1 {P : Program} {w : World} {K : PySem.W.Frag} {mg : Str → Option Value} {base : Heap} {A : Around} {outer : List Env} {s : Shared} {H : Hp} (e : Env0 P w K mg base A outer s H) :
    Env0 P w K mg base A.in1 outer s H := ⟨e.frames, e.mod, e.bs, e.bsz, e.funs, e.frf, e.hok, e.bare⟩

section
variable {X : Cx} {pins : List (Addr × Obj)} {σ : St} {H : Hp} {s s' : Shared}
/-- from a body: what a callee wants -/
theorem Inv.env0 (I : Inv X pins σ H s) : Env0 X.prog X.w X.K X.mg X.base X.A X.stack s H :=
  ⟨I.ok.frames, I.ok.mod, I.bs, Nat.le_trans I.ok.bsz I.sz, I.stack, I.stkFree, I.hok, I.bare⟩
/-- behind a call -/
theorem Inv.after {Q : VK} {u : Value} (I : Inv X pins σ H s) (h : CE X.stack X.prog X.w H s Q u s') : EP X pins σ Q u s' := by
  obtain ⟨v, H', os, bare, un, hok, r, q⟩ := h
  obtain ⟨hh, g, d, t, os'⟩ := s'
  obtain rfl : os' = s.os := os
  exact ⟨v, H', I.call (h' := hh) (g' := g) (d' := d) (t' := t) (ch := []) un hok bare (fun b z => absurd z (by simp)), r, q⟩
end

/-! ### calls -/
/-- f(..): the written arguments, then the defaults dvs; E: what is wanted of an exception -/
def tCall (sp : Sp) (dvs : List V) (E : XK) (t : TA) : TE := fun σ H Q => t σ H fun vs H1 => sp (vs ++ dvs) H1 Q E
/-- o.m(..) of an instance of the class at C -/
def tMeth (C : Addr) (m : Str) (sp : Sp) (dvs : List V) (E : XK) (ta : TE) (t : TA) : TE := fun σ H Q => ta σ H fun x H1 => ∃ a dx fs, x = .ref a ∧ H1 a = some (.ins C dx fs) ∧ fs.lookup m = none ∧
  t σ H1 fun vs H2 => sp (x :: (vs ++ dvs)) H2 Q E
/-- C(..): a new instance and its dict, then __init__ -/
def tMake (C : Addr) (sp : Sp) (dvs : List V) (E : XK) (t : TA) : TE := fun σ H Q => t σ H fun vs H1 => ∀ x dx, H1 x = none → H1 dx = none → dx ≠ x →
  sp (.ref x :: (vs ++ dvs)) (upd (upd H1 dx (.own x)) x (.ins C dx [])) (fun v H2 => v = .non ∧ Q (.ref x) H2) E

/-- how the parameters are bound: us the positional arguments, kw the keywords' values by name, ds the defaults that fill up -/
def Binds (K : PySem.W.Frag) (fd : FuncData) (ps : List Str) (ds : List Value) : Prop :=
  ∀ (s : Shared) (us : List Value), K.In s.heap → (us ++ ds).length = ps.length → BindsTo s fd ⟨us, []⟩ (ps.zip (us ++ ds))
/-- every parameter is given -/
theorem Binds.all {K : PySem.W.Frag} {fd : FuncData} {ps : List Str} (h : ∀ us : List Value, us.length = ps.length → bindArgs fd ⟨us, []⟩ = pure (ps.zip us)) : Binds K fd ps [] := fun s us _ hl => by
  rw [List.append_nil] at hl ⊢
  exact .of_eq (h us hl)

/-- an exception of a callee reaches what this body wants of exceptions -/
def Passes (CX : CXT) (X : Cx) (E : XK) : Prop := ∀ (pins : List (Addr × Obj)) (σ : St) (H : Hp) (s : Shared) (e : Value) (s' : Shared), Inv X pins σ H s → CX X.stack H s E e s' → X.xe e s'

section
variable {X : Cx} {CX : CXT} {k : Nat} {f C : Addr} {fd : FuncData} {ps : List Str} {sp : Sp} {dvs : List V} {ds : List Value} {E : XK} {x m : Str} {p pos apos : Pos} {e o : Expr} {es : List Expr} {ta : TE} {t : TA}

/-- the callee runs -/
theorem run_fn {pins : List (Addr × Obj)} {σ : St} {H : Hp} {s : Shared} {Q : VK} {us : List Value} {vs : List V} (F : FnOk X.prog X.w X.K X.mg X.base CX k f fd ps sp) (hr : Room k X.A) (hb : Binds X.K fd ps ds) (hd : Vals dvs ds) (hx : Passes CX X E)
    (I : Inv X pins σ H s) (r : Vals vs us) (h : sp (vs ++ dvs) H Q E) : wpAny (model X.prog X.w) X.A (call (.ref f) us) (EP X pins σ Q) X.xe s := by
  have r2 : Vals (vs ++ dvs) (us ++ ds) := r.append hd
  have hl : (us ++ ds).length = ps.length := by rw [← r2.length]; exact F.len _ _ _ _ h
  refine wpAny_call (codeAny_mono (F.run X.A X.stack s H ⟨us, []⟩ (us ++ ds) (vs ++ dvs) Q E hr I.env0 (hb s us I.kIn hl) r2 h) fun r s' hq => ?_)
  cases r with
  | error e => exact hx pins σ H s e s' I hq
  | ok fl =>
    cases fl with
    | ret u => exact I.after hq
    | next => exact False.elim hq
    | brk => exact False.elim hq
    | cont => exact False.elim hq

theorem pe_call (F : FnOk X.prog X.w X.K X.mg X.base CX k f fd ps sp) (hr : Room k X.A) (hg : Gl X x) (hm : X.mg x = some (.ref f)) (hk : PySem.W.keepIn X.K (.ref f) = true) (hb : Binds X.K fd ps ds) (hd : Vals dvs ds) (hx : Passes CX X E)
    (ha : PA X (e :: es) t) (hdb : (x == ("__debug__" : Str)) = false := by decide) (he : starEach (e :: es) X.env = (false, eval e X.env) :: starEach es X.env := by rfl) (hpl : (backTo pos (starEach es X.env)).any (·.1) = false := by rfl) :
    PE X (.Call (.Name x p) (e :: es) [] pos) (tCall sp dvs E t) := by
  intro pins s σ H Q I h
  refine wpAny_Call_Name_kw (ld_glob I hg hm ?_ hdb)
  refine PySem.W.callWith_K (h₀ := X.base) I.ok.mod.kin hk (thn (ha pos pins s σ H _ I h) fun us s1 ⟨vs, H1, I1, r, q⟩ => ⟨I1.kIn, ?_⟩) he hpl
  exact run_fn F hr hb hd hx I1 r q

/-- o.m(e, ..) -/
theorem pe_meth {pl : Sem Bool} (he : PE X o ta) (c : Cls X.K C) (hm : Meth X.K C m f) (F : FnOk X.prog X.w X.K X.mg X.base CX k f fd ps sp) (hr : Room k X.A) (hb : Binds X.K fd ps ds) (hd : Vals dvs ds) (hx : Passes CX X E) (ha : PA X (e :: es) t)
    (hst : starEach (e :: es) X.env = (false, eval e X.env) :: starEach es X.env := by rfl) (hpl : (backTo pos (starEach es X.env)).any (·.1) = false := by rfl)
    (ht : eval (.Call (.Attribute o m apos) (e :: es) [] pos) X.env = (do
      let ov ← eval o X.env
      standAt apos.atName
      let (f, first) ← holding [ov] (getMethod ov m pl)
      callWith pos f first (backTo pos (starEach (e :: es) X.env)) (backToKw pos (keywordEach [] X.env))) := by rfl) :
    PE X (.Call (.Attribute o m apos) (e :: es) [] pos) (tMeth C m sp dvs E ta t) := by
  intro pins s σ H Q I h
  refine PySem.W.methodCall_KW (pl := pl) (thn (he pins s σ H _ I h) fun u s1 ⟨x, H1, I1, rx, a, dx, fs, ex, ea, l, q⟩ => ?_) ht
  subst ex
  obtain rfl : u = Value.ref a := rx
  refine getmeth_ok I1 ea c hm l ?_
  refine PySem.W.callWith_K (first := [.ref a]) (h₀ := X.base) I.ok.mod.kin hm.kp (thn (ha pos pins s1 σ H1 _ I1 q) fun us s2 ⟨vs, H2, I2, r, q2⟩ => ⟨I2.kIn, ?_⟩) hst hpl
  exact run_fn (us := .ref a :: us) (vs := .ref a :: vs) F hr hb hd hx I2 (.cons rfl r) q2
/-- o.m() -/
theorem pe_meth0 {pl : Sem Bool} (he : PE X o ta) (c : Cls X.K C) (hm : Meth X.K C m f) (F : FnOk X.prog X.w X.K X.mg X.base CX k f fd ps sp) (hr : Room k X.A) (hb : Binds X.K fd ps ds) (hd : Vals dvs ds) (hx : Passes CX X E)
    (ht : eval (.Call (.Attribute o m apos) [] [] pos) X.env = (do
      let ov ← eval o X.env
      standAt apos.atName
      let (f, first) ← holding [ov] (getMethod ov m pl)
      callWith pos f first (backTo pos (starEach [] X.env)) (backToKw pos (keywordEach [] X.env))) := by rfl) :
    PE X (.Call (.Attribute o m apos) [] [] pos) (tMeth C m sp dvs E ta tNil) := by
  intro pins s σ H Q I h
  refine PySem.W.methodCall_KW (pl := pl) (thn (he pins s σ H _ I h) fun u s1 ⟨x, H1, I1, rx, a, dx, fs, ex, ea, l, q⟩ => ?_) ht
  subst ex
  obtain rfl : u = Value.ref a := rx
  refine getmeth_ok I1 ea c hm l ?_
  exact PySem.W.callWith_K0 (first := [.ref a]) I1.kIn hm.kp (run_fn (us := [.ref a]) (vs := [.ref a]) F hr hb hd hx I1 (.cons rfl .nil) q)

/-- what a class must have to be made -/
structure Mk (K : PySem.W.Frag) (C f : Addr) : Prop where
  makes : PySem.W.makesIn K C = true
  init : PySem.W.findIn K (.ref C) "__init__" = some (some (.ref f))
  fn : PySem.W.isFn K (.ref f) = true
  kp : PySem.W.keepIn K (.ref C) = true

theorem run_make {pins : List (Addr × Obj)} {σ : St} {H : Hp} {s : Shared} {Q : VK} {us : List Value} {vs : List V} (M : Mk X.K C f) (F : FnOk X.prog X.w X.K X.mg X.base CX k f fd ps sp) (hr : Room (k + 1) X.A) (hb : Binds X.K fd ps ds) (hd : Vals dvs ds)
    (hx : Passes CX X E) (I : Inv X pins σ H s) (r : Vals vs us)
    (h : ∀ x dx, H x = none → H dx = none → dx ≠ x → sp (.ref x :: (vs ++ dvs)) (upd (upd H dx (.own x)) x (.ins C dx [])) (fun v H2 => v = .non ∧ Q (.ref x) H2) E) :
    wpAny (model X.prog X.w) X.A (call (.ref C) us) (EP X pins σ Q) X.xe s := by
  have hq := h (s.heap.objs.size + 1) s.heap.objs.size (I.hok.fresh (Nat.le_succ _)) (I.hok.fresh (Nat.le_refl _)) (Nat.ne_of_lt (Nat.lt_succ_self _))
  have I2 := Inv.made (C := C) I
  have r2 : Vals (V.ref (s.heap.objs.size + 1) :: (vs ++ dvs)) (Value.ref (s.heap.objs.size + 1) :: (us ++ ds)) := .cons rfl (r.append hd)
  have hl : (Value.ref (s.heap.objs.size + 1) :: us ++ ds).length = ps.length := by
    have e := r2.length
    rw [F.len _ _ _ _ hq] at e
    exact e.symm
  refine wpAny_call (make_map (f := f) I.kIn M.makes M.init (beq_iff_eq.mp M.fn) (codeAny_mono (F.run _ X.stack _ _ ⟨Value.ref (s.heap.objs.size + 1) :: us, []⟩ (Value.ref (s.heap.objs.size + 1) :: (us ++ ds)) _ _ E (hr.make C us [])
    (I2.env0.make C us []) (hb _ (Value.ref (s.heap.objs.size + 1) :: us) I2.kIn hl) r2 hq) fun r s' hq' => ?_))
  cases r with
  | error e => exact hx pins σ _ _ e s' I2 hq'
  | ok fl =>
    cases fl with
    | ret u =>
      obtain ⟨v, H', I3, rv, ev, q3⟩ := I2.after hq'
      subst ev
      exact ⟨rv, ⟨V.ref (s.heap.objs.size + 1), H', I3, rfl, q3⟩⟩
    | next => exact False.elim hq'
    | brk => exact False.elim hq'
    | cont => exact False.elim hq'
theorem pe_make (M : Mk X.K C f) (F : FnOk X.prog X.w X.K X.mg X.base CX k f fd ps sp) (hr : Room (k + 1) X.A) (hg : Gl X x) (hm : X.mg x = some (.ref C)) (hb : Binds X.K fd ps ds) (hd : Vals dvs ds) (hx : Passes CX X E)
    (ha : PA X (e :: es) t) (hdb : (x == ("__debug__" : Str)) = false := by decide) (he : starEach (e :: es) X.env = (false, eval e X.env) :: starEach es X.env := by rfl) (hpl : (backTo pos (starEach es X.env)).any (·.1) = false := by rfl) :
    PE X (.Call (.Name x p) (e :: es) [] pos) (tMake C sp dvs E t) := by
  intro pins s σ H Q I h
  refine wpAny_Call_Name_kw (ld_glob I hg hm ?_ hdb)
  refine PySem.W.callWith_K (h₀ := X.base) I.ok.mod.kin M.kp (thn (ha pos pins s σ H _ I h) fun us s1 ⟨vs, H1, I1, r, q⟩ => ⟨I1.kIn, ?_⟩) he hpl
  exact run_make M F hr hb hd hx I1 r q
end

/-! ### keywords -/
/-- the values of the keywords, from the left -/
def PK (X : Cx) (kws : List Keyword) (t : TA) : Prop :=
  ∀ (pos : Pos) (pins : List (Addr × Obj)) (s : Shared) (σ : St) (H : Hp) (Q : List V → Hp → Prop), Inv X pins σ H s → t σ H Q → wpAny (model X.prog X.w) X.A (evalAll ((backToKw pos (keywordEach kws X.env)).map (·.2))) (AP X pins σ Q) X.xe s
section
variable {X : Cx} {CX : CXT} {k : Nat} {f C : Addr} {fd : FuncData} {ps ks : List Str} {sp : Sp} {E : XK} {x m : Str} {p pos apos kpos : Pos} {e o : Expr} {es : List Expr} {kws : List Keyword} {te ta : TE} {t tk : TA} {nm : Option Str}
theorem pk_nil : PK X [] tNil := fun _ _ _ _ H Q I h => wpAny_evalAll_nil ⟨[], H, I, .nil, h⟩
theorem pk_cons (ha : PE X e te) (hr : PK X kws t) : PK X (⟨nm, e, kpos⟩ :: kws) (tCons te t) := by
  intro pos pins s σ H Q I h
  show wpAny _ _ (evalAll ((do let v ← eval e X.env; standAt pos; pure v) :: (backToKw pos (keywordEach kws X.env)).map (·.2))) _ _ s
  refine wpAny_evalAll_cons (wpAny_bind (thn (ha pins s σ H _ I h) fun u s1 ⟨x, H1, I1, r1, q1⟩ => wpAny_bind (wpAny_standAt (wpAny_pure ?_))))
  exact thn (hr pos pins s1 σ H1 _ I1 q1) fun us s2 ⟨xs, H2, I2, r2, q2⟩ => ⟨x :: xs, H2, I2, .cons r1 r2, q2⟩

variable {g : List Value → List Value → List Value} {gV : List V → List V → List V}
end

/-! ### a def's body keeps its promise -/
/-- names: the parameters first -/
structure FnScope (N P : List Str) (sc : Scope) : Prop where
  kind : sc.kind = .function
  co : sc.isCoroutine = false
  gen : sc.isGenerator = false
  nd : N.Nodup
  pre : N.take P.length = P
  par : ∀ x ∈ P, sc.names.lookup x = some .local ∨ sc.names.lookup x = some .cell
  nofree : ∀ y ∈ sc.names, y.2 ≠ .free

theorem bindL_out {kindOf : Str → Option NameKind} {x : Str} : ∀ {binds : List (Str × Value)} {m : Str → Option Value}, (∀ v, (x, v) ∉ binds) → bindL kindOf binds m x = m x
  | [], _, _ => rfl
  | (n, v) :: r, m, h => by
    unfold bindL
    rw [bindL_out fun w hw => h w (List.mem_cons_of_mem _ hw)]
    split
    · have : x ≠ n := by rintro rfl; exact h v List.mem_cons_self
      simp [this]
    · rfl
theorem bindC_out {kindOf : Str → Option NameKind} {x : Str} : ∀ {binds : List (Str × Value)} {m : Str → Option Value}, (∀ v, (x, v) ∉ binds) → bindC kindOf binds m x = m x
  | [], _, _ => rfl
  | (n, v) :: r, m, h => by
    unfold bindC
    rw [bindC_out fun w hw => h w (List.mem_cons_of_mem _ hw)]
    split
    · rfl
    · have : x ≠ n := by rintro rfl; exact h v List.mem_cons_self
      simp [this]
theorem bindL_get {kindOf : Str → Option NameKind} {x : Str} {v : Value} : ∀ {P : List Str} {vs : List Value} {i : Nat} {m : Str → Option Value}, P.Nodup → P[i]? = some x → vs[i]? = some v → kindOf x = some .local →
    bindL kindOf (P.zip vs) m x = some v
  | [], _, _, _, _, h, _, _ => by simp at h
  | _ :: _, [], _, _, _, _, h, _ => by simp at h
  | p :: P, w :: vs, 0, m, nd, h1, h2, hk => by
    simp at h1 h2; subst h1; subst h2
    show bindL kindOf ((p, w) :: P.zip vs) m p = _
    unfold bindL
    rw [bindL_out fun v hv => (List.nodup_cons.mp nd).1 (List.of_mem_zip hv).1, if_pos hk]
    simp
  | p :: P, w :: vs, i + 1, m, nd, h1, h2, hk => by
    show bindL kindOf ((p, w) :: P.zip vs) m x = _
    unfold bindL
    exact bindL_get (i := i) (List.nodup_cons.mp nd).2 (by simpa using h1) (by simpa using h2) hk
theorem bindC_get {kindOf : Str → Option NameKind} {x : Str} {v : Value} : ∀ {P : List Str} {vs : List Value} {i : Nat} {m : Str → Option Value}, P.Nodup → P[i]? = some x → vs[i]? = some v → kindOf x ≠ some .local →
    bindC kindOf (P.zip vs) m x = some v
  | [], _, _, _, _, h, _, _ => by simp at h
  | _ :: _, [], _, _, _, _, h, _ => by simp at h
  | p :: P, w :: vs, 0, m, nd, h1, h2, hk => by
    simp at h1 h2; subst h1; subst h2
    show bindC kindOf ((p, w) :: P.zip vs) m p = _
    unfold bindC
    rw [bindC_out fun v hv => (List.nodup_cons.mp nd).1 (List.of_mem_zip hv).1, if_neg hk]
    simp
  | p :: P, w :: vs, i + 1, m, nd, h1, h2, hk => by
    show bindC kindOf ((p, w) :: P.zip vs) m x = _
    unfold bindC
    exact bindC_get (i := i) (List.nodup_cons.mp nd).2 (by simpa using h1) (by simpa using h2) hk

/-- the names' values at the entry -/
def start (N : List Str) (vs : List V) : St := vs.map some ++ List.replicate (N.length - vs.length) none

/-- the context of a def's body, at its entry; an exception leaves the frame, then lies as CX says -/
def cxOf (CX : CXT) (P : Program) (w : World) (K : PySem.W.Frag) (mg : Str → Option Value) (base : Heap) (N : List Str) (qual : Str) (scope : Scope) (f : Addr) (cd : Value) (A : Around) (outer : List Env) (s : Shared) (H : Hp) (E : XK) : Cx where
  prog := P
  w := w
  K := K
  mg := mg
  base := base
  A := A.deeper (envOfC qual scope s.heap.objs.size f cd)
  N := N
  s₀ := s
  H₀ := H
  env := envOfC qual scope s.heap.objs.size f cd
  outer := outer
  stack := envOfC qual scope s.heap.objs.size f cd :: outer
  ex := []
  calm := true
  fn := fun _ => true
  pn := []
  xe := fun e s' => wpAny (model P w) (A.deeper (envOfC qual scope s.heap.objs.size f cd)) (leaving (envOfC qual scope s.heap.objs.size f cd) e) (fun _ s'' => CX outer H s E e s'') (fun e' s'' => CX outer H s E e' s'') s'

theorem cell_has {sc : Scope} {n : Nat} {x : Str} (h : sc.names.lookup x = some .cell) : ∃ c, (cellsFrom n sc.names []).lookup x = some c := by
  have q := PySem.W.cellsFrom_some sc.names n [] (.inl h)
  exact Option.isSome_iff_exists.mp q

theorem inv_start {CX : CXT} {P : Program} {w : World} {K : PySem.W.Frag} {mg : Str → Option Value} {base : Heap} {N ps : List Str} {qual : Str} {scope : Scope} {f : Addr} {cd : Value} {A : Around} {outer : List Env} {s s1 : Shared} {H : Hp} {E : XK} {us : List Value} {vs : List V}
    (S : FnScope N ps scope) (hd : A.handled = none) (e0 : Env0 P w K mg base A outer s H) (hl : vs.length = ps.length) (r : Vals vs us)
    (x : InCallC s s.heap.objs.size (bindL (envOfC qual scope s.heap.objs.size f cd).kindOf (ps.zip us) fun _ => none) (cellsFrom (s.heap.objs.size + 1) scope.names []) (bindC (envOfC qual scope s.heap.objs.size f cd).kindOf (ps.zip us) fun _ => none) s1) :
    Inv (cxOf CX P w K mg base N qual scope f cd A outer s H E) [] (start N vs) H s1 := by
  have hpl : ps.length ≤ N.length := by have := congrArg List.length S.pre; rw [List.length_take] at this; omega
  obtain ⟨h1, tk, rfl, hk⟩ := x.done
  have noA : ∀ b : Addr, b ∉ (cxOf CX P w K mg base N qual scope f cd A outer s H E).ex := fun b z => absurd (show b ∈ ([] : List Addr) from z) (by simp)
  refine ⟨⟨e0.mod, S.kind, rfl, rfl, Nat.le_refl _, fun y z c h1 h2 => ?_, fun y hy => ?_, fun y c _ h => ?_, fun _ => hd, Around.frames_deeper e0.frames, .inr ⟨rfl, rfl⟩, fun b z => absurd z (noA b), e0.bs, e0.bsz, fun b _ _ => noA b, fun b z => absurd z (noA b), e0.funs, e0.frf⟩,
    rfl, e0.bare, Un.kept hk, ⟨_, x.toInCall.ns, fun i y v h1 h2 h3 => ?_⟩, fun y c h => ⟨_, x.cell y c h⟩, e0.hok.fresh (Nat.le_refl _), fun y c h => ?_, fun p hp => absurd (show p ∈ ([] : List (Addr × Obj)) from hp) (by simp), e0.hok.kept hk, ?_⟩
  · exact name_of_addr x.apart (PySem.mem_of_lookup h1) (PySem.mem_of_lookup h2)
  · have hy : scope.names.lookup y = some .cell ∨ scope.names.lookup y = some .free := hy
    rcases hy with hy | hy
    · exact cell_has hy
    · exact absurd rfl (S.nofree _ (PySem.mem_of_lookup hy))
  · exact Nat.le_of_lt (x.above y c (PySem.mem_of_lookup h))
  · have hi : i < vs.length := by
      unfold start at h2
      by_cases hi : i < vs.length
      · exact hi
      · rw [List.getElem?_append_right (by simpa using hi)] at h2
        rw [List.getElem?_replicate] at h2
        split at h2 <;> cases h2
    have ha : vs[i]? = some v := by
      unfold start at h2
      rw [List.getElem?_append_left (by simpa using hi), List.getElem?_map] at h2
      cases e : vs[i]? with
      | none => rw [e] at h2; cases h2
      | some a => rw [e] at h2; cases h2; rfl
    obtain ⟨u, hu, rv⟩ := r.get ha
    have hp : ps[i]? = some y := by
      rw [← S.pre, List.getElem?_take_of_lt (by omega)]; exact h1
    have ndP : ps.Nodup := by rw [← S.pre]; exact S.nd.sublist (List.take_sublist _ _)
    refine ⟨u, rv, ?_⟩
    rcases S.par y (List.mem_of_getElem? hp) with k | k
    · exact .inl ⟨k, bindL_get ndP hp hu k⟩
    · obtain ⟨c, e⟩ := cell_has (n := s.heap.objs.size + 1) k
      refine .inr ⟨.inl k, c, e, ?_⟩
      have q := x.cell y c e
      rw [bindC_get ndP hp hu (by show scope.names.lookup y ≠ _; rw [k]; decide)] at q
      exact q
  · exact e0.hok.fresh (Nat.le_of_lt (x.above y c (PySem.mem_of_lookup h)))
  · unfold start
    show _ = N.length
    rw [List.length_append, List.length_map, List.length_replicate]
    omega

/-- THE RULE: a def (or a method) of the text, by its body. The body's reading t is chosen for each entry; it is run at the parameters' values -/
theorem fn_of {CX : CXT} {P : Program} {w : World} {K : PySem.W.Frag} {mg : Str → Option Value} {base : Heap} {k : Nat} {f : Addr} {name qual : Str} {params : Arguments} {body : List Stmt} {scope : Scope} {dV kV doc pm cdv ct oc : Value} {an od : Option Addr}
    {osl : Array (Option Value)} {N ps : List Str} {sp : Sp} (lk : K.lookup f = some ⟨oc, od, .func (PySem.W.fnOf name qual params body scope dV kV doc pm an cdv ct), osl⟩) (hcd : PySem.W.codeIn K cdv qual = true) (S : FnScope N ps scope)
    (len : ∀ vs H Q E, sp vs H Q E → vs.length = ps.length)
    (hbody : ∀ (A : Around) (outer : List Env) (s : Shared) (H : Hp) (vs : List V) (Q : VK) (E : XK), Room k (A.deeper (envOfC qual scope s.heap.objs.size f cdv)) → sp vs H Q E →
      ∃ t, PSs (cxOf CX P w K mg base N qual scope f cdv A outer s H E) body t ∧ t { nx := fun _ H' => Q .non H', rt := Q } (start N vs) H) :
    FnOk P w K mg base CX (k + 1) f (PySem.W.fnOf name qual params body scope dV kV doc pm an cdv ct) ps sp := by
  refine ⟨len, fun A outer s H args us vs Q E hr e0 hb r hsp => ?_⟩
  have hl := len _ _ _ _ hsp
  have KX : K.In s.heap := e0.mod.kin.keeps fun b o e => (e0.bs b o e).1
  have lim : s.heap.NoLimit := e0.mod.nolimit.keeps fun b o e => (e0.bs b o e).1
  have hkind : ∀ y ∈ ps.zip us, scope.names.lookup y.1 = some .local ∨ (scope.names.lookup y.1 = some .cell ∧ ((cellsFrom (s.heap.objs.size + 1) scope.names []).lookup y.1).isSome = true) := fun ⟨n, v⟩ hy => by
    rcases S.par n (List.of_mem_zip hy).1 with q | q
    · exact .inl q
    · exact .inr ⟨q, PySem.W.cellsFrom_some _ _ _ (.inl q)⟩
  refine codeAny_call_function hr.depth (KX _ _ lk) rfl S.co S.gen rfl (PySem.W.codeRec_of KX hcd) (hb _ _ _ _ ?_)
  refine wpAny_newFunctionEnv_cells S.kind hkind fun env he s1 x => ?_
  subst he
  refine ⟨lim.keeps x.toInCall.keep, codeAny_func ?_⟩
  obtain ⟨t, ht, hq⟩ := hbody A outer s H vs Q E (hr.deeper _) hsp
  have I : Inv (cxOf CX P w K mg base N qual scope f cdv A outer s H E) [] (start N vs) H s1 := inv_start S hr.hd e0 hl r x
  refine wpAny_mono (ht [] s1 (start N vs) H _ I hq) (fun fl s' hs => ?_) fun e s' hs => hs
  have fin : ∀ {σ' : St} {H' : Hp} {v : V} {u : Value}, Inv (cxOf CX P w K mg base N qual scope f cdv A outer s H E) [] σ' H' s' → RelV v u → Q v H' → CE outer P w H s Q u s' :=
    fun {σ' H' v u} J rv q => ⟨v, H', J.os, J.bare, J.base, J.hok, rv, q⟩
  cases fl with
  | ret u =>
    obtain ⟨v, σ', H', J, rv, q⟩ := hs
    exact fin J rv q
  | next =>
    obtain ⟨σ', H', J, q⟩ := hs
    exact fin (v := V.non) (u := Value.none) J rfl q
  | brk =>
    obtain ⟨_, _, _, q⟩ := hs
    exact False.elim q
  | cont =>
    obtain ⟨_, _, _, q⟩ := hs
    exact False.elim q
end L2

namespace L2
open PySem PySem.Spec PyProof.Rows
section
variable {X : Cx} {x : Str} {p pos : Pos} {e : Expr} {es : List Expr} {t : TA} {id T : String} {r : List V → Hp → VK → Prop}

def tCB (r : List V → Hp → VK → Prop) (t : TA) : TE := fun σ H Q => t σ H fun vs H1 => r vs H1 Q
/-- f(e, ..), f a built-in function -/
theorem pe_callB (hc : CallR X (.builtin id) r) (hg : Gl X x) (hm : X.mg x = none) (hv : bootBuiltins x = some (.builtin id)) (ha : PA X (e :: es) t) (hn : x ≠ "__name__" := by decide) (hdb : (x == ("__debug__" : Str)) = false := by decide)
    (he : starEach (e :: es) X.env = (false, eval e X.env) :: starEach es X.env := by rfl) (hpl : (backTo pos (starEach es X.env)).any (·.1) = false := by rfl) : PE X (.Call (.Name x p) (e :: es) [] pos) (tCB r t) := by
  intro pins s σ H Q I h
  refine wpAny_Call_Name_kw (ld_blt I hg hm hv ?_ hn hdb)
  exact PyProof.Rows.callWith_builtin1 (thn (ha pos pins s σ H _ I h) fun us s1 ⟨vs, H1, I1, r1, q1⟩ => hc pins s1 σ H1 vs us Q I1 r1 q1) he hpl
/-- T(e, ..), T a built-in type -/
theorem pe_callTy (hc : CallR X (.type T) r) (hg : Gl X x) (hm : X.mg x = none) (hv : bootBuiltins x = some (.type T)) (ha : PA X (e :: es) t) (hn : x ≠ "__name__" := by decide) (hdb : (x == ("__debug__" : Str)) = false := by decide)
    (he : starEach (e :: es) X.env = (false, eval e X.env) :: starEach es X.env := by rfl) (hpl : (backTo pos (starEach es X.env)).any (·.1) = false := by rfl) : PE X (.Call (.Name x p) (e :: es) [] pos) (tCB r t) := by
  intro pins s σ H Q I h
  refine wpAny_Call_Name_kw (ld_blt I hg hm hv ?_ hn hdb)
  exact PyProof.Rows.callWith_type1 (thn (ha pos pins s σ H _ I h) fun us s1 ⟨vs, H1, I1, r1, q1⟩ => hc pins s1 σ H1 vs us Q I1 r1 q1) he hpl
end
end L2

namespace HT
open PySem PyProof.Rows

/-- t < u of tuples of ints -/
def lexLt : List Int → List Int → Bool
  | [], [] => false
  | [], _ :: _ => true
  | _ :: _, [] => false
  | x :: xs, y :: ys => if x = y then lexLt xs ys else decide (x < y)
theorem lexLt_cons (x y : Int) (xs ys : List Int) : lexLt (x :: xs) (y :: ys) = if x = y then lexLt xs ys else decide (x < y) := rfl
theorem lexLt_nil_nil : lexLt [] [] = false := rfl
theorem lexLt_nil_cons (y : Int) (ys : List Int) : lexLt [] (y :: ys) = true := rfl
theorem lexLt_cons_nil (x : Int) (xs : List Int) : lexLt (x :: xs) [] = false := rfl

theorem eqAt_int (A : Around) (s : Shared) (a : Int) (t : Tok) (c : Int) (u : Tok) : ∃ e, SeqAt.EqAt A s (.int a t) (.int c u) e ∧ (e = true ↔ a = c) :=
  ⟨(a == c), SeqAt.EqAt.int_int a t c u, by simp⟩
theorem rcLt_int (A : Around) (s : Shared) (a : Int) (t : Tok) (c : Int) (u : Tok) (prog : Program) (w : World) (E : Value → Shared → Prop) (Q : Value → Shared → Prop) (h : Q (.bool (decide (a < c))) s) :
    wpAny (model prog w) A (richCompare .Lt (.int a t) (.int c u)) Q E s :=
  (PyProof.Rows.lt_int h : wpAny (model prog w) A (compareOp .Lt (.int a t) (.int c u)) Q E s)

section
open PySem.SeqAt
open PySem.AutoSeq1 (wpAny_loadPart')
open PySem.MeetsSeq PySem.MeetsSeq2 PySem.MeetsSeq3

theorem tuple_lt_ints (l b : Addr) (items items2 : Array Value) (n n2 : Nat) (dd dd2 : Option Addr) (sl sl2 : Array (Option Value)) (ns ms : List Int) (hi : IntsAre items.toList ns) (hj : IntsAre items2.toList ms) :
    Meets (Builtin.«tuple.__lt__» ⟨[.ref l, .ref b], []⟩)
      (fun _ R s => s.heap.get? l = some { cls := .type "tuple", dict := dd, data := .seq items n, slots := sl } ∧ s.heap.get? b = some { cls := .type "tuple", dict := dd2, data := .seq items2 n2, slots := sl2 } ∧
        R (.ok (.ret (.bool (lexLt ns ms)))) s) :=
  .of_wp fun prog w A R s h => by
    obtain ⟨hp, g, d, tk, os⟩ := s; obtain ⟨hl, hb, h⟩ := h
    have f2 := AutoSeq1.sub_tuple_tuple
    have z1 : items.size = ns.length := by rw [← hi.length]; simp
    have z2 : items2.size = ms.length := by rw [← hj.length]; simp
    wp_walk using wpAny_loadPart' hl, wpAny_loadPart' hb, wpAny_forIn_list _ (fun rest b s' => b.1 = none ∧ s' = ⟨hp, g, d, tk, os⟩ ∧ ∃ (vs ws : List Value) (ns' ms' : List Int), rest = vs.zip ws ∧
      IntsAre vs ns' ∧ IntsAre ws ms' ∧ ns'.length + items2.size = ms'.length + items.size ∧ R (.ok (.ret (.bool (lexLt ns' ms')))) ⟨hp, g, d, tk, os⟩) _
    case turn =>
      rintro ⟨y, x⟩ rest b s' ⟨hb', rfl, vs, ws, ns', ms', hz, hvi, hwi, hlen, hR⟩
      cases hvi with
      | nil => rw [List.zip_nil_left] at hz; cases hz
      | cons a t hvi' =>
        cases hwi with
        | nil => rw [List.zip_nil_right] at hz; cases hz
        | cons c u hwi' =>
          rw [List.zip_cons_cons] at hz
          injection hz with hyx hrest
          injection hyx with hy hx
          subst hy hx
          rw [lexLt_cons] at hR
          simp only [List.length_cons] at hlen
          obtain ⟨e, he, hiff⟩ := eqAt_int A.in1 ⟨hp, g, d, tk, os⟩ a t c u
          refine wpAny_bind (he prog w _ _ ?_)
          cases e with
          | true =>
            rw [if_pos (hiff.mp rfl)] at hR
            wp_walk
            exact ⟨rfl, rfl, _, _, _, _, hrest, hvi', hwi', by omega, hR⟩
          | false =>
            rw [if_neg (fun q => absurd (hiff.mpr q) Bool.false_ne_true)] at hR
            have hri := rcLt_int A.in1 ⟨hp, g, d, tk, os⟩ a t c u prog w
            wp_walk using hri
            exact ⟨_, rfl, by simpa using hR⟩
    case fin =>
      rintro ⟨b1, b2⟩ s' ⟨hb', rfl, vs, ws, ns', ms', hz, hvi, hwi, hlen, hR⟩
      simp only at hb'
      subst hb'
      have hv : lexLt ns' ms' = decide (items.size < items2.size) := by
        cases hvi with
        | nil =>
          cases hwi with
          | nil =>
            simp only [List.length_nil] at hlen
            rw [lexLt_nil_nil]
            exact (decide_eq_false (by omega)).symm
          | cons c u hw =>
            simp only [List.length_nil, List.length_cons] at hlen
            rw [lexLt_nil_cons]
            exact (decide_eq_true (by omega)).symm
        | cons a t hv =>
          cases hwi with
          | nil =>
            simp only [List.length_nil, List.length_cons] at hlen
            rw [lexLt_cons_nil]
            exact (decide_eq_false (by omega)).symm
          | cons c u hw =>
            rw [List.zip_cons_cons] at hz
            cases hz
      rw [hv] at hR
      wp_walk
      exact ⟨_, rfl, by simpa [Builtin.Tuple.tupleCompareSizes] using hR⟩
    case h =>
      exact ⟨rfl, rfl, items.toList, items2.toList, ns, ms, rfl, hi, hj, by omega, h⟩
end

section
variable {prog : Program} {w : World} {A : Around} {E : Value → Shared → Prop} {s : Shared}

theorem lt_tupInts {l b : Addr} {items items2 : Array Value} {ns ms : List Int} {Q : Value → Shared → Prop} (hl : IsTup s.heap l items) (hb : IsTup s.heap b items2) (hi : IntsAre items.toList ns) (hj : IntsAre items2.toList ms)
    (hu : A.units < cLine) (h : Q (.bool (lexLt ns ms)) s) : wpAny (model prog w) A (compareOp .Lt (.ref l) (.ref b)) Q E s := by
  obtain ⟨⟨cls, dd, data, sl⟩, ho, hc, n, hd⟩ := id hl
  obtain ⟨⟨cls2, dd2, data2, sl2⟩, ho2, hc2, n2, hd2⟩ := id hb
  simp only at hc hd hc2 hd2
  subst hc hd hc2 hd2
  exact richCompare_meets_room (op := .Lt) ⟨_, ho, rfl⟩ ⟨_, ho2, rfl⟩ PySem.F.slot_tuple_lt PySem.F.entry_tuple_lt (PySem.F.args_tuple_lt_2 _ _) (tuple_lt_ints l b items items2 n n2 dd dd2 sl sl2 ns ms hi hj)
    ⟨ho, ho2, show Value.bool (lexLt ns ms) ≠ Value.notImplemented ∧ Q (.bool (lexLt ns ms)) s from ⟨(fun x => nomatch x), h⟩⟩ hu

/-- t + u, t not empty -/
theorem cat_tup {t b : Addr} {vs ws : List Value} {Q : Value → Shared → Prop} (ht : IsTup s.heap t vs.toArray) (hb : IsTup s.heap b ws.toArray) (hv : vs ≠ [])
    (h1 : ws = [] → Q (.ref t) s) (h2 : ws ≠ [] → Q (.ref s.heap.objs.size) { s with heap := s.heap.push { cls := .type "tuple", data := .seq (vs ++ ws).toArray } })
    (hsz : vs.length + ws.length ≤ sizeLine) : wpAny (model prog w) A (binaryOp .Add (.ref t) (.ref b)) Q E s := by
  obtain ⟨⟨cls, dd, data, sl⟩, ho, hc, n, hd⟩ := id ht
  obtain ⟨⟨cls2, dd2, data2, sl2⟩, ho2, hc2, n2, hd2⟩ := id hb
  simp only at hc hd hc2 hd2
  subst hc hd hc2 hd2
  have e : vs.toArray ++ ws.toArray = (vs ++ ws).toArray := by simp
  by_cases hw : ws = []
  · exact concat_meets ⟨_, ho, rfl⟩ ⟨_, ho2, rfl⟩ noFill_tuple_add seq_tuple_add PySem.F.slot_tuple_add PySem.F.entry_tuple_add (PySem.F.args_tuple_add_2 _ _)
      (tuple_addW1 t b vs.toArray ws.toArray n n2 dd dd2 sl sl2 (by simpa using hv) (by simp [hw])) ⟨ho, ho2, h1 hw⟩
  · refine concat_meets ⟨_, ho, rfl⟩ ⟨_, ho2, rfl⟩ noFill_tuple_add seq_tuple_add PySem.F.slot_tuple_add PySem.F.entry_tuple_add (PySem.F.args_tuple_add_2 _ _)
      (tuple_addW2 t b vs.toArray ws.toArray n n2 dd dd2 sl sl2 (by simpa using hv) (by simpa using hw) (by rw [List.size_toArray, List.size_toArray]; exact hsz)) ⟨ho, ho2, ?_⟩
    rw [e]
    exact h2 hw

/-! ### t[a:b], not the whole -/
/-- a slice's bound as a place among n (d where it is left out) -/
def sIx (n d : Nat) : Option Int → Nat
  | none => d
  | some v => if v < 0 then (v + (n : Int)).toNat else min v.toNat n
theorem sIx_none (n d : Nat) : sIx n d none = d := rfl
theorem sIx_nat (n d k : Nat) : sIx n d (some (k : Int)) = min k n := by
  show (if (k : Int) < 0 then ((k : Int) + (n : Int)).toNat else min (k : Int).toNat n) = min k n
  rw [if_neg (by omega), Int.toNat_natCast]
theorem sIx_le (n d : Nat) (hd : d ≤ n) (o : Option Int) : sIx n d o ≤ n := by
  cases o with
  | none => exact hd
  | some v =>
    show (if v < 0 then (v + (n : Int)).toNat else min v.toNat n) ≤ n
    by_cases hv : v < 0
    · rw [if_pos hv]; omega
    · rw [if_neg hv]; exact Nat.min_le_right _ _
theorem clip_eq (v : Int) (n d : Nat) : (if v < 0 then max (v + (n : Int)) 0 else min v (n : Int)) = ((sIx n d (some v) : Nat) : Int) := by
  show (if v < 0 then max (v + (n : Int)) 0 else min v (n : Int)) = (((if v < 0 then (v + (n : Int)).toNat else min v.toNat n) : Nat) : Int)
  by_cases hv : v < 0
  · simp only [if_pos hv]; omega
  · simp only [if_neg hv]; omega
theorem adjust_gen (lo hi : Option Int) (n : Nat) : Builtin.Slice.sliceAdjust lo hi 1 (n : Int) = (((sIx n 0 lo : Nat) : Int), ((sIx n n hi : Nat) : Int)) := by
  have h1 : ¬ ((1 : Int) < 0) := by omega
  unfold Builtin.Slice.sliceAdjust
  simp only [h1, if_false]
  refine Prod.ext ?_ ?_
  · cases lo with
    | none => rfl
    | some v => exact clip_eq v n 0
  · cases hi with
    | none => rfl
    | some v => exact clip_eq v n n
theorem places_gen (i j : Nat) : Builtin.Slice.slicePlaces (i : Int) (j : Int) 1 = j - i := by
  unfold Builtin.Slice.slicePlaces
  have h1 : (1 : Int) > 0 := by omega
  simp only [h1, if_true, Int.ediv_one]
  split <;> omega
theorem slicePart_ {v : Value} {o : Option Int} {Q : Option Int → Shared → Prop} (p : IsPart v o) (h : Q o s) : wpAny (model prog w) A (Builtin.Slice.slicePartIndex v) Q E s := by
  cases p with
  | none => exact slicePart_none h
  | int i t => exact slicePart_int h
theorem sliceApplied_gen {sl : Addr} {vl vu : Value} {lo hi : Option Int} {n : Nat} {Q : Int × Int × Nat → Shared → Prop} (hs : s.heap.IsSliceOf sl vl vu .none) (pl : IsPart vl lo) (pu : IsPart vu hi)
    (h : Q (((sIx n 0 lo : Nat) : Int), 1, sIx n n hi - sIx n 0 lo) s) : wpAny (model prog w) A (Builtin.Slice.sliceApplied (.ref sl) (pure (n : Int))) Q E s := by
  obtain ⟨os, hos, hcs, hds⟩ := id hs
  unfold Builtin.Slice.sliceApplied Builtin.Slice.sliceFields
  refine wpAny_bind (wpAny_bind (wpAny_field hos hds (x := vl) rfl (wpAny_bind (wpAny_field hos hds (x := vu) rfl (wpAny_bind (wpAny_field hos hds (x := .none) rfl (wpAny_pure ?_)))))))
  refine wpAny_bind (slicePart_none ?_)
  show wpAny _ _ (if ((1 : Int) == 0) = true then _ else _) _ _ s
  rw [if_neg (by decide)]
  refine wpAny_bind (slicePart_ pl (wpAny_bind (slicePart_ pu (wpAny_bind (wpAny_pure ?_)))))
  show wpAny _ _ (match Builtin.Slice.sliceAdjust lo hi 1 (n : Int) with | (lo, hi) => pure (lo, (1 : Int), Builtin.Slice.slicePlaces lo hi 1)) _ _ s
  rw [adjust_gen lo hi n]
  show wpAny _ _ (pure (((sIx n 0 lo : Nat) : Int), (1 : Int), Builtin.Slice.slicePlaces ((sIx n 0 lo : Nat) : Int) ((sIx n n hi : Nat) : Int) 1)) _ _ s
  rw [places_gen]
  exact wpAny_pure h
theorem pick_gen (xs : Array Value) (i k : Nat) : ((List.range k).filterMap fun (m : Nat) => xs[((i : Int) + (m : Int) * 1).toNat]?).toArray = ((xs.toList.drop i).take k).toArray := by
  have e : (fun (m : Nat) => xs[((i : Int) + (m : Int) * 1).toNat]?) = fun m => xs[i + m]? := by
    funext m
    have : ((i : Int) + (m : Int) * 1).toNat = i + m := by omega
    rw [this]
  rw [e]
  have := pick_run xs i k
  rw [List.filterMap_map] at this
  have e2 : ((fun x => xs[x]?) ∘ fun x => i + x) = fun m => xs[i + m]? := rfl
  rw [e2] at this
  rw [this]

theorem getItem_tuple_cut {t sl : Addr} {items : Array Value} {vl vu : Value} {lo hi : Option Int} {Q : Value → Shared → Prop} (ht : IsTup s.heap t items) (hs : s.heap.IsSliceOf sl vl vu .none) (pl : IsPart vl lo) (pu : IsPart vu hi)
    (hw : ¬ (sIx items.size 0 lo = 0 ∧ sIx items.size items.size hi = items.size))
    (h : Q (.ref s.heap.objs.size) { s with heap := s.heap.push { cls := .type "tuple", data := .seq ((items.toList.drop (sIx items.size 0 lo)).take (sIx items.size items.size hi - sIx items.size 0 lo)).toArray } })
    (hsz : items.size ≤ sizeLine) : wpAny (model prog w) A (getItem (.ref t) (.ref sl)) Q E s := by
  have htake : sizeOk (.seq ((items.toList.drop (sIx items.size 0 lo)).take (sIx items.size items.size hi - sIx items.size 0 lo)).toArray) := by
    show ((items.toList.drop (sIx items.size 0 lo)).take (sIx items.size items.size hi - sIx items.size 0 lo)).toArray.size ≤ sizeLine
    rw [List.size_toArray, List.length_take, List.length_drop, Array.length_toList]
    omega
  have hj : sIx items.size items.size hi ≤ items.size := sIx_le _ _ (Nat.le_refl _) hi
  obtain ⟨os, hos, hcs, hds⟩ := id hs
  have hTs : s.TypeIs (.ref sl) "slice" := ⟨os, hos, hcs⟩
  unfold getItem
  try with_reducible refine wpAny_holding ?_
  first | refine wpAny_bind (wpAny_pure ?_) | skip
  refine wpAny_bind (wpAny_sequenceKey ht.typeIs (by decide) ?_)
  refine wpAny_bind (wpAny_callSpecial?_slot (name := Str.ofString "__getitem__") ht.typeIs PyProof.Rows.slot_tuple_getitem
    (wpAny_call_entry PyProof.Rows.slot_tuple_getitem ht.typeIs entry_tuple_getitem ?_ (args_tuple_getitem _ _)))
  show wpAny _ _ (Builtin.Tuple.tupleItemsOf (.ref t) >>= _) _ _ s
  refine wpAny_bind (tupleItemsOf_ ht ?_)
  refine wpAny_bind (wpAny_typeOf hTs ?_)
  rw [if_pos (by decide)]
  refine wpAny_bind (sliceApplied_gen hs pl pu ?_)
  have hno : ¬ ((((sIx items.size 0 lo : Nat) : Int) == 0 && (1 : Int) == 1 && (sIx items.size items.size hi - sIx items.size 0 lo) == items.size) = true) := by
    intro q
    rw [Bool.and_eq_true, Bool.and_eq_true] at q
    have q1 : ((sIx items.size 0 lo : Nat) : Int) = 0 := eq_of_beq q.1.1
    have q2 : sIx items.size items.size hi - sIx items.size 0 lo = items.size := eq_of_beq q.2
    exact hw ⟨by omega, by omega⟩
  show wpAny _ _ (if (((sIx items.size 0 lo : Nat) : Int) == 0 && (1 : Int) == 1 && (sIx items.size items.size hi - sIx items.size 0 lo) == items.size) = true then _ else _) _ _ s
  rw [if_neg hno, pick_gen]
  first
    | exact wpAny_bind (m := Builtin.Tuple.tupleExact _) (wpAny_newObj_type (wpAny_pure ⟨_, rfl, wpAny_pure h⟩) htake)
    | exact wpAny_bind (m := Builtin.Tuple.tupleExact _) (wpAny_newObj_type (wpAny_bind (wpAny_pure (wpAny_pure ⟨_, rfl, wpAny_pure h⟩))) htake)
    | exact wpAny_bind (wpAny_bind (m := Builtin.Tuple.tupleExact _) (wpAny_newObj_type (wpAny_pure (wpAny_pure ⟨_, rfl, wpAny_pure h⟩)) htake))
    | exact wpAny_bind (wpAny_bind (m := Builtin.Tuple.tupleExact _) (wpAny_newObj_type (wpAny_pure ⟨_, rfl, wpAny_pure h⟩) htake))
end
end HT

namespace L2
open PySem PySem.Spec PyProof.Rows

/-! ### the parts of a slice -/
abbrev TO := St → Hp → (Option Int → Hp → Prop) → Prop
/-- a slice's part (left out, or an int) -/
def PO (X : Cx) (e : Option Expr) (t : TO) : Prop :=
  ∀ (pins : List (Addr × Obj)) (s : Shared) (σ : St) (H : Hp) (Q : Option Int → Hp → Prop), Inv X pins σ H s → t σ H Q →
    wpAny (model X.prog X.w) X.A (evalPart e X.env) (fun u s' => ∃ o H', Inv X pins σ H' s' ∧ IsPart u o ∧ Q o H') X.xe s
def tNoPart : TO := fun _ H Q => Q none H
def tPart (t : TE) : TO := fun σ H Q => t σ H fun x H1 => ∃ i, x = .int i ∧ Q (some i) H1

theorem intsAre_of {ns : List Int} : ∀ {us : List Value}, Vals (ns.map V.int) us → IntsAre us ns := by
  induction ns with
  | nil => intro us r; rw [List.map_nil] at r; cases r; exact .nil
  | cons n ns ih =>
    intro us r
    rw [List.map_cons] at r
    cases r with
    | cons r1 r2 =>
      obtain ⟨t, e⟩ := r1
      subst e
      exact .cons n t (ih r2)

section
variable {X : Cx} {e : Expr} {te : TE} {lo hi : Option Expr} {tl th : TO} {pos p2 : Pos}

theorem po_none : PO X none tNoPart := by
  intro pins s σ H Q I h
  rw [evalPart_none]
  exact wpAny_pure ⟨none, H, I, .none, h⟩
theorem po_some (h : PE X e te) : PO X (some e) (tPart te) := by
  intro pins s σ H Q I hw
  rw [evalPart_some]
  refine thn (h pins s σ H _ I hw) fun u s1 ⟨x, H1, I1, r1, q1⟩ => ?_
  obtain ⟨i, rfl, q⟩ := q1
  obtain ⟨t, rfl⟩ := r1
  exact ⟨some i, H1, I1, .int i t, q⟩

/-- what a slice of a value is, by values: the slice object stands at sl -/
def SlR (X : Cx) (r : V → Option Int → Option Int → Hp → VK → Prop) : Prop :=
  ∀ (pins : List (Addr × Obj)) (s : Shared) (σ : St) (H : Hp) (x : V) (v vl vu : Value) (lo hi : Option Int) (sl : Addr) (Q : VK), Inv X pins σ H s → RelV x v → s.heap.IsSliceOf sl vl vu .none → IsPart vl lo → IsPart vu hi → r x lo hi H Q →
    ∃ T id, typeLookup (.type T) "__getitem__" = pure (some (.builtin id)) ∧ s.TypeIs v T ∧ wpAny (model X.prog X.w) X.A (getItem v (.ref sl)) (EP X pins σ Q) X.xe s
def tSl (r : V → Option Int → Option Int → Hp → VK → Prop) (te : TE) (tl th : TO) : TE := fun σ H Q => te σ H fun x H1 => tl σ H1 fun l H2 => th σ H2 fun u H3 => r x l u H3 Q
/-- a[lo:hi], any a -/
theorem pe_slice {r : V → Option Int → Option Int → Hp → VK → Prop} (hr : SlR X r) (he : PE X e te) (hl : PO X lo tl) (hu : PO X hi th) : PE X (.Subscript e (.Slice lo hi none p2) pos) (tSl r te tl th) := by
  intro pins s σ H Q I h
  refine Subscript_ (thn (he pins s σ H _ I h) fun v s1 ⟨x, H1, I1, r1, q1⟩ => ?_)
  refine wpAny_Slice (thn (hl pins s1 σ H1 _ I1 q1) fun vl s2 ⟨l, H2, I2, pl, q2⟩ => thn (hu pins s2 σ H2 _ I2 q2) fun vu s3 ⟨u, H3, I3, pu, q3⟩ => ?_)
  rw [evalPart_none]
  refine wpAny_pure ?_
  have I4 : Inv X pins σ H3 { s3 with heap := s3.heap.push { cls := .type "slice", data := .fields #[vl, vu, .none] } } := I3.kept (t' := s3.toks) fun b ob q => Heap.get?_push_of_some _ q
  obtain ⟨T, id, hT, ht, hg⟩ := hr pins { s3 with heap := s3.heap.push { cls := .type "slice", data := .fields #[vl, vu, .none] } } σ H3 x v vl vu l u s3.heap.objs.size Q I4 r1 (Heap.IsSliceOf.new ..) pl pu q3
  show wpAny (model X.prog X.w) X.A (subscriptTail e (.Slice lo hi none p2) v (.ref s3.heap.objs.size)) (EP X pins σ Q) X.xe { s3 with heap := s3.heap.push { cls := .type "slice", data := .fields #[vl, vu, .none] } }
  exact tail_any (ops := [.ref s3.heap.objs.size, v]) ht hT hg (by with_unfolding_all rfl)

/-- the items of xs[lo:hi] -/
def cutV (xs : List V) (lo hi : Option Int) : List V := (xs.drop (HT.sIx xs.length 0 lo)).take (HT.sIx xs.length xs.length hi - HT.sIx xs.length 0 lo)
theorem cutV_length (xs : List V) (lo hi : Option Int) : (cutV xs lo hi).length ≤ xs.length := by
  unfold cutV
  rw [List.length_take, List.length_drop]
  omega
/-- t[lo:hi], not the whole of it (the whole would be t itself) -/
def rSlT (K : PySem.W.Frag) : V → Option Int → Option Int → Hp → VK → Prop := fun x lo hi H Q => ∃ a xs, x = .ref a ∧ SqT K H a xs ∧
  ¬ (HT.sIx xs.length 0 lo = 0 ∧ HT.sIx xs.length xs.length hi = xs.length) ∧ ∀ p, H p = none → Q (.ref p) (upd H p (.tup (cutV xs lo hi)))
theorem sl_tup : SlR X (rSlT X.K) := by
  intro pins s σ H x v vl vu lo hi sl Q I rx hs pl pu h
  obtain ⟨a, xs, rfl, hx, hw, q⟩ := h
  cases rx
  obtain ⟨its, r, ht, hz⟩ := I.tuple hx
  have hlen : its.toArray.size = xs.length := by rw [List.size_toArray]; exact r.length.symm
  refine ⟨"tuple", _, PyProof.Rows.slot_tuple_getitem.lookup, ht.typeIs, ?_⟩
  refine HT.getItem_tuple_cut ht hs pl pu (by rw [hlen]; exact hw) ?_ (by rw [hlen]; exact hz)
  rw [hlen]
  refine ⟨.ref s.heap.objs.size, _, I.laid (t' := s.toks) (o := .tup (cutV xs lo hi)) (fun b ob q => Heap.get?_push_of_some _ q) (Nat.le_refl _) ?_, rfl, q _ (I.hok.fresh (Nat.le_refl _))⟩
  exact ⟨Nat.le_trans (cutV_length xs lo hi) hz, _, (r.drop (HT.sIx xs.length 0 lo)).take (HT.sIx xs.length xs.length hi - HT.sIx xs.length 0 lo), IsTup.new _ _⟩

/-! ### t < u, t + u -/
/-- t + u, t not empty: u empty gives t itself -/
def rCatT (K : PySem.W.Frag) : R2 := fun x y H Q => ∃ a b xs ys, x = .ref a ∧ y = .ref b ∧ SqT K H a xs ∧ SqT K H b ys ∧ xs ≠ [] ∧ xs.length + ys.length ≤ sizeLine ∧
  (ys = [] → Q (.ref a) H) ∧ (ys ≠ [] → ∀ p, H p = none → Q (.ref p) (upd H p (.tup (xs ++ ys))))
theorem Vals.nil_iff {xs : List V} {us : List Value} (r : Vals xs us) : us = [] ↔ xs = [] := by
  cases r with
  | nil => simp
  | cons _ _ => simp
theorem op_catT : OpR X (binaryOp .Add) (rCatT X.K) := by
  intro pins s σ H x y v u Q I rx ry h
  obtain ⟨a, b, xs, ys, rfl, rfl, ha, hb, hx, hz, q1, q2⟩ := h
  cases rx
  cases ry
  obtain ⟨its, r1, p1, _⟩ := I.tuple ha
  obtain ⟨its2, r2, p2, _⟩ := I.tuple hb
  refine HT.cat_tup p1 p2 (fun z => hx (r1.nil_iff.mp z)) (fun z => ⟨.ref a, H, I, rfl, q1 (r2.nil_iff.mp z)⟩) (fun z => ?_) (by rw [← r1.length, ← r2.length]; exact hz)
  refine ⟨.ref s.heap.objs.size, _, I.laid (t' := s.toks) (o := .tup (xs ++ ys)) (fun b ob q => Heap.get?_push_of_some _ q) (Nat.le_refl _) ?_, rfl, q2 (fun w => z (r2.nil_iff.mpr w)) _ (I.hok.fresh (Nat.le_refl _))⟩
  exact ⟨by rw [List.length_append]; exact hz, _, r1.append r2, IsTup.new _ _⟩
end
end L2

namespace L2
open PySem PySem.Spec PyProof.Rows

/-! ### places -/
/-- the place that an index of any sign means -/
def ixN (n : Nat) (i : Int) : Option Nat := if 0 ≤ i then (if i < n then some i.toNat else none) else if -(n : Int) ≤ i then some (i + n).toNat else none
def atI {α : Type} (xs : List α) (i : Int) : Option α := (ixN xs.length i).bind fun j => xs[j]?
theorem ixN_seq {n : Nat} {i : Int} {j : Nat} (h : ixN n i = some j) : seqIndex? i n = some j ∧ j < n ∧ -(n : Int) ≤ i ∧ i < n := by
  unfold ixN at h
  by_cases h0 : 0 ≤ i
  · rw [if_pos h0] at h
    by_cases h1 : i < n
    · rw [if_pos h1] at h
      have e : i.toNat = j := Option.some.inj h
      exact ⟨by rw [seqIndex_of h0 h1, e], by omega, by omega, h1⟩
    · rw [if_neg h1] at h; cases h
  · rw [if_neg h0] at h
    by_cases h1 : -(n : Int) ≤ i
    · rw [if_pos h1] at h
      have e : (i + n).toNat = j := Option.some.inj h
      exact ⟨by rw [seqIndex_neg (by omega) h1, e], by omega, h1, by omega⟩
    · rw [if_neg h1] at h; cases h
theorem atI_get {α : Type} {xs : List α} {i : Int} {v : α} (h : atI xs i = some v) : ∃ j, seqIndex? i xs.length = some j ∧ xs[j]? = some v ∧ j < xs.length ∧ -(xs.length : Int) ≤ i ∧ i < xs.length := by
  unfold atI at h
  cases e : ixN xs.length i with
  | none => rw [e] at h; cases h
  | some j =>
    rw [e] at h
    obtain ⟨h1, h2, h3, h4⟩ := ixN_seq e
    exact ⟨j, h1, h, h2, h3, h4⟩
theorem atI_nat {α : Type} {xs : List α} {j : Nat} {v : α} (h : xs[j]? = some v) : atI xs (j : Int) = some v := by
  have hj : j < xs.length := (List.getElem?_eq_some_iff.mp h).1
  have e : ixN xs.length (j : Int) = some j := by
    unfold ixN
    rw [if_pos (by omega), if_pos (by omega)]; simp
  unfold atI; rw [e]; exact h

/-! ### what may be subscripted -/
/-- what stands as an index of a plain subscript -/
def PlainIx (b : Expr) : Prop := ∀ o i, subscripted b false o i = operate [o, i] (getItem o i)
/-- a subscript by values -/
def IxR (X : Cx) (r : R2) : Prop :=
  ∀ (value slice : Expr) (pins : List (Addr × Obj)) (s : Shared) (σ : St) (H : Hp) (x y : V) (v u : Value) (Q : VK), Inv X pins σ H s → RelV x v → RelV y u → r x y H Q →
    subscripted slice false v u = operate [v, u] (getItem v u) → wpAny (model X.prog X.w) X.A (subscriptTail value slice v u) (EP X pins σ Q) X.xe s
/-- a call of a builtin's method by values: the receiver, the arguments -/
def MtR (X : Cx) (id : String) (r : V → List V → Hp → VK → Prop) : Prop :=
  ∀ (pins : List (Addr × Obj)) (s : Shared) (σ : St) (H : Hp) (x : V) (xs : List V) (v : Value) (us : List Value) (Q : VK), Inv X pins σ H s → RelV x v → Vals xs us → r x xs H Q →
    wpAny (model X.prog X.w) X.A (call (.builtin id) (v :: us)) (EP X pins σ Q) X.xe s
section
variable {X : Cx} {a b : Expr} {ta tb : TE} {pos : Pos}
/-- a[b] -/
theorem pe_ix {r : R2} (hr : IxR X r) (ha : PE X a ta) (hb : PE X b tb) (hs : PlainIx b) : PE X (.Subscript a b pos) (tOp r ta tb) := by
  intro pins s σ H Q I h
  exact Subscript_ (binT ha hb I h fun v u s2 x y H2 I2 rx ry q => hr a b pins s2 σ H2 x y v u Q I2 rx ry q (hs _ _))

def rIxL (K : PySem.W.Frag) : R2 := fun x y H Q => ∃ p xs i v, x = .ref p ∧ y = .int i ∧ SqL K H p xs ∧ atI xs i = some v ∧ Q v H
def rIxT (K : PySem.W.Frag) : R2 := fun x y H Q => ∃ p xs i v, x = .ref p ∧ y = .int i ∧ SqT K H p xs ∧ atI xs i = some v ∧ Q v H
theorem ix_list : IxR X (rIxL X.K) := by
  intro value slice pins s σ H x y v u Q I rx ry h hs
  obtain ⟨p, xs, i, z, rfl, rfl, hq, he, q⟩ := h
  cases rx
  obtain ⟨t, rfl⟩ := ry
  obtain ⟨its, r, pl, hz⟩ := I.list hq
  obtain ⟨j, h1, h2, h3, h4, h5⟩ := atI_get he
  obtain ⟨w, ew, rw'⟩ := r.get h2
  have hl := r.length
  have hn := line63
  have fin : EP X pins σ Q w s := ⟨z, H, I, rw', q⟩
  by_cases h0 : 0 ≤ i
  · have hj : i.toNat = j := by
      rw [seqIndex_of h0 h5] at h1
      exact Option.some.inj h1
    exact item_listR pl.isList h0 (by omega) (by rw [hj]; simpa using ew) fin hs
  · have hj : (i + (its.toArray.size : Int)).toNat = j := by
      rw [seqIndex_neg (by omega) h4] at h1
      rw [List.size_toArray, ← hl]
      exact Option.some.inj h1
    exact subscriptTail_builtinR (x := w) pl.isList.typeIs slot_list_getitem.lookup
      (wpAny_getItem_list_neg (Q := fun r s' => r = w ∧ EP X pins σ Q r s') pl.isList (by omega) (by rw [List.size_toArray] <;> omega) (by omega) (by rw [hj]; simpa using ew) ⟨rfl, fin⟩) hs
theorem ix_tup : IxR X (rIxT X.K) := by
  intro value slice pins s σ H x y v u Q I rx ry h hs
  obtain ⟨p, xs, i, z, rfl, rfl, hq, he, q⟩ := h
  cases rx
  obtain ⟨t, rfl⟩ := ry
  obtain ⟨its, r, pl, hz⟩ := I.tuple hq
  obtain ⟨j, h1, h2, h3, h4, h5⟩ := atI_get he
  obtain ⟨w, ew, rw'⟩ := r.get h2
  have hl := r.length
  have hn := line63
  have fin : EP X pins σ Q w s := ⟨z, H, I, rw', q⟩
  exact subscriptTail_builtinR (x := w) pl.typeIs slot_tuple_getitem.lookup
    (getItem_tuple (j := j) (Q := fun r s' => r = w ∧ EP X pins σ Q r s') pl (by omega) (by omega) (by rw [List.size_toArray, ← hl]; exact h1) (by simpa using ew) ⟨rfl, fin⟩) hs

/-! ### xs[i] = v, any sign -/
/-- the list's object behind a store -/
theorem mapSeq_set (its : List Value) (n j : Nat) (u : Value) : Obj.mapSeq (·.setIfInBounds j u) { cls := .type "list", data := .seq its.toArray n } = { cls := .type "list", data := .seq (its.set j u).toArray n } := by
  simp [Obj.mapSeq]
theorem Inv.lst {pins : List (Addr × Obj)} {σ : St} {H : Hp} {s : Shared} {p : Addr} {xs : List V} (I : Inv X pins σ H s) (h : H p = some (.lst xs)) :
    ∃ (its : List Value) (n : Nat), Vals xs its ∧ s.heap.get? p = some { cls := .type "list", data := .seq its.toArray n } ∧ xs.length ≤ sizeLine := by
  obtain ⟨z, its, n, r, e⟩ := I.hok p _ h
  exact ⟨its, n, r, e, z⟩
/-- the list at p is written by an update of its object -/
theorem Inv.lstUpd {pins : List (Addr × Obj)} {σ : St} {H : Hp} {s : Shared} {p : Addr} {xs ys : List V} {its its' : List Value} {n n' : Nat} {f : Obj → Obj} (I : Inv X pins σ H s) (h : H p = some (.lst xs))
    (ho : s.heap.get? p = some { cls := .type "list", data := .seq its.toArray n }) (hf : f { cls := .type "list", data := .seq its.toArray n } = { cls := .type "list", data := .seq its'.toArray n' }) (r : Vals ys its') (hz : ys.length ≤ sizeLine) (t : Nat) :
    Inv X pins σ (upd H p (.lst ys)) { s with heap := s.heap.update p f, toks := t } := by
  have e : (s.heap.update p f).get? p = some { cls := .type "list", data := .seq its'.toArray n' } := by
    rw [Heap.get?_update_self f ho (by rw [hf] <;> rfl), hf]
  refine I.write (x := p) (e := p) (by rw [h]; trivial) (.inl rfl) (fun b u hb q => (Heap.get?_update_other _ _ (Ne.symm hb)).trans q) ⟨_, e⟩ ?_
  exact ⟨hz, its', n', r, e⟩
def rSetL : V → V → V → Hp → (Hp → Prop) → Prop := fun o i v H Q => ∃ p xs k j, o = .ref p ∧ i = .int k ∧ H p = some (.lst xs) ∧ ixN xs.length k = some j ∧ Q (upd H p (.lst (xs.set j v)))
theorem set_list : PSet X rSetL := by
  intro pins s σ H o i v ov iv u Q I ro ri rv h
  obtain ⟨p, xs, k, j, rfl, rfl, hp, hj, q⟩ := h
  cases ro
  obtain ⟨t, rfl⟩ := ri
  obtain ⟨its, n, r, ho, hz⟩ := I.lst hp
  obtain ⟨h1, h2, h3, h4⟩ := ixN_seq hj
  have hl := r.length
  have hn := line63
  have I' : Inv X pins σ (upd H p (.lst (xs.set j v))) { s with heap := s.heap.update p (Obj.mapSeq (·.setIfInBounds j u)) } :=
    I.lstUpd hp ho (mapSeq_set its n j u) (r.set rv j) (by rw [List.length_set]; exact hz) s.toks
  by_cases h0 : 0 ≤ k
  · have hk : k.toNat = j := by
      rw [seqIndex_of h0 h4] at h1
      exact Option.some.inj h1
    exact PySem.W.ki_setAt ho h0 (by omega) (by rw [List.size_toArray, ← hl]; exact h4) (by rw [hk]; exact ⟨_, I', q⟩)
  · have hk : (k + (its.toArray.size : Int)).toNat = j := by
      rw [seqIndex_neg (by omega) h3] at h1
      rw [List.size_toArray, ← hl]
      exact Option.some.inj h1
    exact PySem.W.ki_setBack ho (by omega) (by rw [List.size_toArray, ← hl]; exact h3) (by omega) (by rw [hk]; exact ⟨_, I', q⟩)

/-! ### slices -/
theorem slice_bounds (lo hi : Option Int) (n : Nat) : (sliceBounds lo hi none n).1 = ((HT.sIx n 0 lo : Nat) : Int) ∧ (sliceBounds lo hi none n).2.1 = ((HT.sIx n n hi : Nat) : Int) ∧ (sliceBounds lo hi none n).2.2 = 1 := by
  refine ⟨?_, ?_, rfl⟩
  · cases lo with
    | none => simp [sliceBounds, HT.sIx]
    | some i =>
      simp only [sliceBounds, HT.sIx, Option.getD_none, show (1 : Int) > 0 by decide, if_true]
      by_cases h : i < 0
      · simp only [h, if_true] <;> omega
      · simp only [h, if_false] <;> omega
  · cases hi with
    | none => simp [sliceBounds, HT.sIx]
    | some i =>
      simp only [sliceBounds, HT.sIx, Option.getD_none, show (1 : Int) > 0 by decide, if_true]
      by_cases h : i < 0
      · simp only [h, if_true] <;> omega
      · simp only [h, if_false] <;> omega
theorem slicePick_cut (its : List Value) (lo hi : Option Int) : slicePick its.toArray lo hi none = ((its.drop (HT.sIx its.length 0 lo)).take (HT.sIx its.length its.length hi - HT.sIx its.length 0 lo)).toArray := by
  obtain ⟨h1, h2, h3⟩ := slice_bounds lo hi its.toArray.size
  unfold slicePick
  rw [h1, h2, h3]
  simp only [sliceRange_one, pick_run, List.size_toArray] <;> rfl
/-- xs[lo:hi] of a list: a new list -/
def rSlL (K : PySem.W.Frag) : V → Option Int → Option Int → Hp → VK → Prop := fun x lo hi H Q => ∃ a xs, x = .ref a ∧ SqL K H a xs ∧ ∀ p, H p = none → Q (.ref p) (upd H p (.lst (cutV xs lo hi)))
theorem sl_list : SlR X (rSlL X.K) := by
  intro pins s σ H x v vl vu lo hi sl Q I rx hs pl pu h
  obtain ⟨a, xs, rfl, hx, q⟩ := h
  cases rx
  obtain ⟨its, r, ht, hz⟩ := I.list hx
  have hlen := r.length
  refine ⟨"list", _, slot_list_getitem.lookup, ht.isList.typeIs, ?_⟩
  refine wpAny_getItem_list_slice ht.isList hs pl pu .none (by simp) ?_ (by rw [List.size_toArray] <;> omega)
  rw [slicePick_cut, ← hlen]
  refine ⟨.ref s.heap.objs.size, _, I.laid (t' := s.toks) (o := .lst (cutV xs lo hi)) (fun b ob q => Heap.get?_push_of_some _ q) (Nat.le_refl _) ?_, rfl, q _ (I.hok.fresh (Nat.le_refl _))⟩
  exact ⟨Nat.le_trans (cutV_length xs lo hi) hz, _, 0, (r.drop (HT.sIx xs.length 0 lo)).take (HT.sIx xs.length xs.length hi - HT.sIx xs.length 0 lo), Heap.get?_push_size _ rfl⟩

/-! ### in, not in: flat items -/

/-! ### len, list(x), tuple(x) of any list or tuple that is read -/
theorem call_len_seq : CallR X (.builtin "len") (fun xs H Q => ∃ p ys, xs = [.ref p] ∧ (SqL X.K H p ys ∨ SqT X.K H p ys) ∧ Q (.int ys.length) H) := by
  intro pins s σ H xs us Q I r h
  obtain ⟨p, ys, rfl, hq, q⟩ := h
  obtain ⟨u, rfl, rx⟩ := vals1 r
  cases rx
  have hn := line63
  rcases hq with hq | hq
  · obtain ⟨its, r', pl, hz⟩ := I.list hq
    have hlen := r'.length
    exact Calls.call_len_list pl.isList (by simp only [List.size_toArray] <;> omega) ⟨.int ys.length, H, I.tok _, ⟨s.toks + 1, by rw [List.size_toArray, hlen]⟩, q⟩
  · obtain ⟨its, r', pl, hz⟩ := I.tuple hq
    have hlen := r'.length
    exact len_tuple pl (by simp only [List.size_toArray] <;> omega) ⟨.int ys.length, H, I.tok _, ⟨s.toks + 1, by rw [List.size_toArray, hlen]⟩, q⟩
theorem call_list_of : CallR X (.type "list") (fun xs H Q => ∃ p ys, xs = [.ref p] ∧ (SqL X.K H p ys ∨ SqT X.K H p ys) ∧ ∀ l, H l = none → Q (.ref l) (upd H l (.lst ys))) := by
  intro pins s σ H xs us Q I r h
  obtain ⟨p, ys, rfl, hq, q⟩ := h
  obtain ⟨u, rfl, rx⟩ := vals1 r
  cases rx
  have fin : ∀ (its : List Value), Vals ys its → ys.length ≤ sizeLine → ∀ (h' : Heap) (c' : Nat), (∀ b o', s.heap.get? b = some o' → h'.get? b = some o') →
      h'.get? s.heap.objs.size = some { cls := .type "list", dict := none, data := .seq its.toArray c', slots := #[] } → EP X pins σ Q (.ref s.heap.objs.size) { s with heap := h' } := fun its r' hz h' c' kp e =>
    ⟨.ref s.heap.objs.size, _, I.laid (t' := s.toks) kp (Nat.le_refl _) (show ObjOk X.prog X.w _ h' _ (.lst ys) from ⟨hz, its, c', r', e⟩), rfl, q _ (I.hok.fresh (Nat.le_refl _))⟩
  rcases hq with hq | hq
  · obtain ⟨its, r', pl, hz⟩ := I.list hq
    have hlen := r'.length
    obtain ⟨o, ho, hc, n, hd⟩ := pl.isList
    exact call_list_seq p (.inl rfl) ho hc hd (fun h' c' kp e => fin its r' hz h' c' kp e) (by simp only [List.size_toArray] <;> omega)
  · obtain ⟨its, r', pl, hz⟩ := I.tuple hq
    have hlen := r'.length
    obtain ⟨o, ho, hc, n, hd⟩ := pl
    exact call_list_seq p (.inr rfl) ho hc hd (fun h' c' kp e => fin its r' hz h' c' kp e) (by simp only [List.size_toArray] <;> omega)
theorem call_tuple_of : CallR X (.type "tuple") (fun xs H Q => ∃ p ys, xs = [.ref p] ∧ ((SqL X.K H p ys ∧ ∀ l, H l = none → Q (.ref l) (upd H l (.tup ys))) ∨ (SqT X.K H p ys ∧ Q (.ref p) H))) := by
  intro pins s σ H xs us Q I r h
  obtain ⟨p, ys, rfl, h⟩ := h
  obtain ⟨u, rfl, rx⟩ := vals1 r
  cases rx
  rcases h with ⟨hq, q⟩ | ⟨hq, q⟩
  · obtain ⟨its, r', pl, hz⟩ := I.list hq
    have hlen := r'.length
    refine call_tuple_list pl.isList (fun h' kp => ?_) (by simp only [List.size_toArray] <;> omega)
    have I1 : Inv X pins σ H { s with heap := h' } := I.kept (t' := s.toks) kp
    have I2 : Inv X pins σ (upd H h'.objs.size (.tup ys)) { s with heap := h'.push { cls := .type "tuple", data := .seq its.toArray } } :=
      I1.laid (t' := s.toks) (fun b o e => Heap.get?_push_of_some _ e) (Nat.le_refl _) (show ObjOk X.prog X.w _ _ _ (.tup ys) from ⟨hz, its, r', IsTup.new _ _⟩)
    exact ⟨.ref h'.objs.size, _, I2, rfl, q _ (I1.hok.fresh (Nat.le_refl _))⟩
  · obtain ⟨its, r', pl, hz⟩ := I.tuple hq
    exact call_tuple_same pl ⟨.ref p, H, I, rfl, q⟩

/-! ### the call of a builtin's method: o.m(..) -/
/-- the value is of that builtin type -/
def tyV (K : PySem.W.Frag) (T : String) (x : V) (H : Hp) : Prop := match x with
  | .str _ => T = "str"
  | .int _ => T = "int"
  | .ref p => (T = "list" ∧ ∃ xs, SqL K H p xs) ∨ (T = "tuple" ∧ ∃ o, K.lookup p = some o ∧ o.cls = .type "tuple" ∧ o.dict = none) ∨
      (T = "dict" ∧ ((∃ kvs, H p = some (.dK kvs)) ∨ ∃ kvs, H p = some (.dT kvs))) ∨ (T = "set" ∧ ∃ S n, H p = some (.set S n))
  | _ => False
theorem tyV_is {pins : List (Addr × Obj)} {σ : St} {H : Hp} {s : Shared} {T : String} {x : V} {v : Value} (I : Inv X pins σ H s) (r : RelV x v) (ty : tyV X.K T x H) :
    s.TypeIs v T ∧ ∀ a, v = .ref a → ∃ ob, s.heap.get? a = some ob ∧ ob.dict = none := by
  cases x with
  | str z =>
    obtain ⟨t, rfl⟩ := r
    cases (show T = "str" from ty)
    exact ⟨typeIs_str s z t, fun _ e => nomatch e⟩
  | int i =>
    obtain ⟨t, rfl⟩ := r
    cases (show T = "int" from ty)
    exact ⟨typeIs_int s i t, fun _ e => nomatch e⟩
  | ref p =>
    cases r
    rcases ty with ⟨rfl, xs, hq⟩ | ⟨rfl, o, hk, hc, hd⟩ | ⟨rfl, hk⟩ | ⟨rfl, S, n, hk⟩
    · obtain ⟨its, _, pl, _⟩ := I.list hq
      refine ⟨pl.isList.typeIs, fun a e => ?_⟩
      cases e
      obtain ⟨o, n, e, c, hd, _⟩ := pl
      exact ⟨o, e, hd⟩
    · refine ⟨⟨o, I.kIn p o hk, hc⟩, fun a e => ?_⟩
      cases e
      exact ⟨o, I.kIn _ o hk, hd⟩
    · have z : ∃ o, s.heap.get? p = some o ∧ o.ExactDict := by
        rcases hk with ⟨kvs, hk⟩ | ⟨kvs, hk⟩
        · obtain ⟨_, _, _, _, o, _, _, e, ex, _⟩ := I.hok p _ hk
          exact ⟨o, e, ex⟩
        · obtain ⟨_, _, _, _, o, _, _, e, ex, _⟩ := I.hok p _ hk
          exact ⟨o, e, ex⟩
      obtain ⟨o, e, ex⟩ := z
      refine ⟨⟨o, e, ex.1⟩, fun a e2 => ?_⟩
      cases e2
      exact ⟨o, e, ex.2.1⟩
    · obtain ⟨o, _, _, _, e, ex, _⟩ := I.hok p _ hk
      refine ⟨⟨o, e, ex.1⟩, fun a e2 => ?_⟩
      cases e2
      exact ⟨o, e, ex.2.1⟩
  | _ => exact False.elim ty
def tBM (K : PySem.W.Frag) (T : String) (r : V → List V → Hp → VK → Prop) (to : TE) (t : TA) : TE := fun σ H Q => to σ H fun x H1 => tyV K T x H1 ∧ t σ H1 fun xs H2 => r x xs H2 Q
variable {o e : Expr} {es : List Expr} {to : TE} {t : TA} {name : Str} {apos cpos : Pos} {T id : String} {r : V → List V → Hp → VK → Prop}
theorem pe_bm (pa : PlainAttrs T) (slot : Slot T name id) (hty : typeOf (.builtin id) = pure (.type "method_descriptor")) (hm : MtR X id r) (ho : PE X o to) (ha : PA X (e :: es) t)
    (hbase : attributeBase o name X.env (eval o X.env) = eval o X.env := by rfl)
    (hfew : ((backTo cpos (starEach (e :: es) X.env)).all (fun x => !x.1) && (backToKw cpos (keywordEach [] X.env)).all (fun x => x.1.isSome)
      && decide ((e :: es).length + ([] : List Keyword).length + (if ([] : List Keyword).isEmpty then 0 else 1) < 30)) = true := by rfl)
    (hline : (apos.endLine == cpos.line) = true := by rfl) (hs : starEach (e :: es) X.env = (false, eval e X.env) :: starEach es X.env := by rfl) (hplain : (backTo cpos (starEach es X.env)).any (·.1) = false := by rfl) :
    PE X (.Call (.Attribute o name apos) (e :: es) [] cpos) (tBM X.K T r to t) := by
  intro pins s σ H Q I h
  refine wpAny_Call_method_late hbase hfew hline rfl (thn (ho pins s σ H _ I h) fun v s1 ⟨x, H1, I1, r1, ty, q1⟩ => ?_)
  obtain ⟨h1, h2⟩ := tyV_is I1 r1 ty
  refine ⟨T, id, pa, slot, hty, h1, h2, ?_⟩
  have hA := ha cpos pins s1 σ H1 _ I1 q1
  rw [hs] at hA ⊢
  refine Calls.callWith_builtin (by show (false || (backTo cpos (starEach es X.env)).any (·.1)) = false; rw [hplain] <;> rfl) (Calls.evalArgs_plain ?_)
  exact thn hA fun us s2 ⟨vs, H2, I2, r2, q2⟩ => hm pins s2 σ H2 x vs v us Q I2 r1 r2 q2
/- xs.append(e), list.index on a module's tuple .. are MtR facts of 06m -/
end
end L2

namespace L2
open PySem PySem.Spec PyProof.Rows

def MtM (X : Cx) (id : String) (r : V → List V → Hp → VK → Prop) : Prop :=
  ∀ (pins : List (Addr × Obj)) (s : Shared) (σ : St) (H : Hp) (x : V) (xs : List V) (v : Value) (us : List Value) (Q : VK), Inv X pins σ H s → RelV x v → Vals xs us → r x xs H Q →
    wpAny (model X.prog X.w) X.A (call (.builtin id) (v :: us)) (EP X pins σ Q) X.xe s

/-! ### lists of values -/
theorem Vals.one : ∀ {x : V} {us : List Value}, Vals [x] us → ∃ u, us = [u] ∧ RelV x u
  | _, _, .cons r .nil => ⟨_, rfl, r⟩
theorem Vals.two : ∀ {x y : V} {us : List Value}, Vals [x, y] us → ∃ u v, us = [u, v] ∧ RelV x u ∧ RelV y v
  | _, _, _, .cons r (.cons q .nil) => ⟨_, _, rfl, r, q⟩
theorem Vals.reverse {xs : List V} {us : List Value} (h : Vals xs us) : Vals xs.reverse us.reverse := by
  induction h with
  | nil => exact .nil
  | cons r t ih => rw [List.reverse_cons, List.reverse_cons]; exact Vals.append ih (.cons r .nil)

section
variable {X : Cx} {pins : List (Addr × Obj)} {σ : St} {H : Hp} {s : Shared} {l b : Addr} {xs ys zs : List V}

/-! ### the two steps: a tracked list is rewritten, a new list is laid -/
theorem Inv.lset {its its' : List Value} {n : Nat} {f : Array Value → Array Value} {t' : Nat} (I : Inv X pins σ H s) (hH : H l = some (.lst xs))
    (e : s.heap.get? l = some { cls := .type "list", data := .seq its.toArray n }) (hf : f its.toArray = its'.toArray) (hv : Vals ys its') (hz : ys.length ≤ sizeLine) :
    Inv X pins σ (upd H l (.lst ys)) { s with heap := s.heap.update l (Obj.mapSeq f), toks := t' } := by
  have q := PySem.IsL.update e f
  rw [hf] at q
  refine I.write (x := l) (e := l) (by rw [hH]; exact trivial) (.inl rfl) (fun b' u hb hu => (Heap.get?_update_other s.heap (Obj.mapSeq f) (Ne.symm hb)).trans hu) ⟨_, q⟩ ?_
  exact ⟨hz, its', _, hv, q⟩
theorem Inv.lnew {its : List Value} {t' : Nat} (I : Inv X pins σ H s) (hv : Vals ys its) (hz : ys.length ≤ sizeLine) :
    Inv X pins σ (upd H s.heap.objs.size (.lst ys)) { s with heap := s.heap.push { cls := .type "list", data := .seq its.toArray }, toks := t' } :=
  I.laid (fun _ _ q => Heap.get?_push_of_some _ q) (Nat.le_refl _) ⟨hz, its, 0, hv, Heap.get?_push_size _ rfl⟩
theorem Inv.fresh (I : Inv X pins σ H s) : H s.heap.objs.size = none := I.hok.fresh (Nat.le_refl _)
theorem Inv.lstM (I : Inv X pins σ H s) (hH : H l = some (.lst xs)) : xs.length ≤ sizeLine ∧ ∃ (its : List Value) (n : Nat), Vals xs its ∧ xs.length = its.length ∧ s.heap.get? l = some { cls := .type "list", data := .seq its.toArray n } := by
  obtain ⟨z, its, n, r, e⟩ := I.hok l _ hH
  exact ⟨z, its, n, r, r.length, e⟩

theorem notLongL {n : Nat} (h : n ≤ sizeLine) : Builtin.List.listTooLong n = false := by
  unfold Builtin.List.listTooLong
  exact decide_eq_false (by omega)
end

section
variable {X : Cx}

/-! ### methods -/
def rAppend : V → List V → Hp → VK → Prop := fun x vs H Q => ∃ l xs y, x = .ref l ∧ vs = [y] ∧ H l = some (.lst xs) ∧ xs.length < sizeLine ∧ Q .non (upd H l (.lst (xs ++ [y])))
theorem mt_append : MtM X "list.append" rAppend := by
  intro pins s σ H x vs v us Q I rx rv h
  obtain ⟨l, xs, y, rfl, rfl, hH, hz, q⟩ := h
  cases rx
  obtain ⟨u, rfl, ru⟩ := rv.one
  obtain ⟨z, its, n, r, hl, e⟩ := I.lstM hH
  refine call_meets F.slot_list_append ⟨_, e, rfl⟩ F.entry_list_append (F.args_list_append_2 _ _) (PySem.list_append l its.toArray n u (by rw [List.size_toArray]; omega)) ⟨e, ?_⟩
  refine ⟨.non, _, I.lset (its' := its ++ [u]) hH e (by simp) (r.append (.cons ru .nil)) ?_, rfl, q⟩
  rw [List.length_append, List.length_singleton]
  omega

def rExtend : V → List V → Hp → VK → Prop := fun x vs H Q => ∃ l b xs zs, x = .ref l ∧ vs = [.ref b] ∧ H l = some (.lst xs) ∧ H b = some (.lst zs) ∧ xs.length + zs.length ≤ sizeLine ∧ Q .non (upd H l (.lst (xs ++ zs)))
theorem mt_extend : MtM X "list.extend" rExtend := by
  intro pins s σ H x vs v us Q I rx rv h
  obtain ⟨l, b, xs, zs, rfl, rfl, hH, hB, hz, q⟩ := h
  cases rx
  obtain ⟨u, rfl, ru⟩ := rv.one
  cases ru
  obtain ⟨z, its, n, r, hl, e⟩ := I.lstM hH
  obtain ⟨z2, its2, n2, r2, hl2, e2⟩ := I.lstM hB
  have hsz : its.toArray.size + its2.toArray.size ≤ sizeLine := by rw [List.size_toArray, List.size_toArray]; omega
  have hlong : ¬ (!its.toArray.isEmpty && Builtin.List.listTooLong (its.toArray.size + its2.toArray.size)) = true := by
    rw [notLongL hsz, Bool.and_false]
    exact Bool.false_ne_true
  refine call_meets F.slot_list_extend ⟨_, e, rfl⟩ F.entry_list_extend (F.args_list_extend_2 _ _)
    (AutoSeq1.list_extend_list_list_0 l its.toArray n b its2.toArray n2 hlong (by rw [List.size_toArray]; omega) (by omega)) ⟨e, e2, ?_⟩
  refine ⟨.non, _, I.lset (its' := its ++ its2) hH e (by simp) (r.append r2) ?_, rfl, q⟩
  rw [List.length_append]
  omega





/-! ### list + list, list += list, list * int -/
def rCat : R2 := fun x y H Q => ∃ l b xs zs, x = .ref l ∧ y = .ref b ∧ H l = some (.lst xs) ∧ H b = some (.lst zs) ∧ xs.length + zs.length ≤ sizeLine ∧ ∀ p, H p = none → Q (.ref p) (upd H p (.lst (xs ++ zs)))
theorem op_cat : OpR X (binaryOp .Add) rCat := by
  intro pins s σ H x y v u Q I rx ry h
  obtain ⟨l, b, xs, zs, rfl, rfl, hH, hB, hz, q⟩ := h
  cases rx
  cases ry
  obtain ⟨z, its, n, r, hl, e⟩ := I.lstM hH
  obtain ⟨z2, its2, n2, r2, hl2, e2⟩ := I.lstM hB
  refine PySem.P.add_list e e2 ?_ (by rw [List.size_toArray, List.size_toArray]; omega)
  have ea : its.toArray ++ its2.toArray = (its ++ its2).toArray := by simp
  rw [ea]
  exact ⟨.ref _, _, I.lnew (t' := s.toks) (r.append r2) (by rw [List.length_append]; omega), rfl, q _ I.fresh⟩

/-! ### del xs[i] -/
end

/-! ### xs[a:b] = ys -/
section
variable {prog : Program} {w : World} {A : Around} {E : Value → Shared → Prop} {s : Shared}
end

section
variable {X : Cx}
end
end L2

namespace Att
open PySem PySem.W PySem.Calls PyProof.Rows

/-! ### the script -/
theorem ints_of_wellAll {P : Params} {h : Heap} : ∀ (ns : List Int) (vs : List Value), WellAll P h vs (ns.map WData.int) → IntsAre vs ns := by
  intro ns
  induction ns with
  | nil =>
    intro vs w
    rw [List.map_nil] at w
    cases w
    exact .nil
  | cons n ns ih =>
    intro vs w
    rw [List.map_cons] at w
    cases w with
    | cons a b =>
      cases a
      exact .cons _ _ (ih _ b)

theorem script_of {l : OpenLaw} {n : Nat} (hn : l.most = some n) {P : Params} {h : Heap} {args : List WData} {vals : List Value}
    (hpre : l.row.toRowW.claim.pre args = true) (hwl : WellAll P h vals args) :
    ∃ a vs ns, vals = [Value.ref a] ∧ args = [WData.list (ns.map WData.int)] ∧ h.get? a = some { cls := .type "list", data := .seq vs.toArray } ∧ IntsAre vs ns ∧ ns.length ≤ n := by
  have hsh : WShape.hasAll [] args [.list .int] = true := (pre_splitW hpre).1
  have hc : l.pre.holds [] { args := args } = true := (pre_splitW hpre).2
  obtain ⟨d, r, rfl, h1, h2⟩ := hasAllW_cons hsh
  obtain rfl := hasAllW_nil h2
  obtain ⟨xs, rfl, h3⟩ := hasW_list h1
  obtain ⟨ns, rfl⟩ := items_int h3
  have hlen : ns.length ≤ n := by
    unfold OpenLaw.pre at hc
    have h4 : (WTm.not (.lt (.lit (.int (n : Int))) (.len (.arg 0)))).holds [] { args := [.list (ns.map .int)] } = true := by
      have h4 := (holds_andW hc).1
      rw [hn] at h4
      exact h4
    have h5 := condW_of h4 (w_not (w_lt w_lit (w_len_list (w_arg rfl))))
    rw [List.length_map] at h5
    refine Nat.le_of_not_lt fun q => ?_
    have q' : (n : Int) < ((ns.length : Nat) : Int) := by omega
    first
      | (rw [decide_eq_true q'] at h5; exact absurd h5 (by decide))
      | (simp at h5; omega)
  cases hwl with
  | cons w1 w2 =>
    cases w2
    cases w1 with
    | list ho hall => exact ⟨_, _, ns, rfl, rfl, ho, ints_of_wellAll ns _ hall, hlen⟩

theorem post_true (l : OpenLaw) (args : List WData) : l.row.toRowW.claim.post args (.bool true) args = true :=
  postW_of (r := l.row.toRowW) (X := (true == true))
    (show WShape.has [] (.bool true) .bool = true by first | rfl | decide | simp [WShape.has, WShape.arms, WShape.armsAll])
    (show (WTm.eq .res (.lit (.bool true))).value [] { args := args, res := some (.bool true), after := args } = some (.bool (true == true)) from w_eq_bool (w_res rfl) w_lit) rfl

/-! ### the attachment: holds_open's last premise (the goal 'hc' behind k_head) from a wpAny of the law's body -/

/-- the same from a codeAny of the CALL (for a layer whose function contracts speak of calls) -/
theorem attach_call {l : OpenLaw} {n : Nat} {q : Program} {loose : List Str} {XP : (Str → Option Value) → Heap → Prop} {YP : World → Heap → Prop} {d : DefRec}
    (hn : l.most = some n) (hdf : d.params.defaults = [])
    (call : ∀ (w : World) (s₀ s₁ : Shared) (mg mb : Str → Option Value) (fa : Addr) (o : Obj) (pm cd doc : Value) (a : Addr) (vs : List Value) (ns : List Int),
      Ground q loose [] XP w s₀ mg mb s₁.heap → YP w s₁.heap →
      s₁.heap.get? fa = some o → o.data = .func (docDef d.name d.params d.body d.scope pm cd doc) → s₁.heap.CodeRec cd d.name → mg d.name = some (.ref fa) →
      s₁.heap.get? a = some { cls := .type "list", data := .seq vs.toArray } → IntsAre vs ns → ns.length ≤ n → s₁.gens = #[] →
      codeAny (model l.prog w) callerA (.call (.ref fa) ⟨[.ref a], []⟩) (fun r s' => r = .ok (.ret (.bool true)) ∧ OldK s₁.heap s'.heap ∧ s'.os = s₁.os ∧ AllBare s'.gens) s₁) :
    WalkO q loose XP YP l.row.toRowW d [] (fun f vs => PySem.call f vs) := by
  intro w s₀ s₁ mg mb G Y fa o pm cd doc dV kV ho hd hcd hD hmg hg args vals as hpre hlay hrd hwl hlo
  obtain rfl : dV = .none := Dflts.none hD hdf
  obtain rfl : kV = .none := Dflts.noKw hD
  obtain ⟨a, vs, ns, rfl, rfl, hobj, hints, hlen⟩ := script_of hn hpre hwl
  refine enter_call (codeAny_mono (call w s₀ s₁ mg mb fa o pm cd doc a vs ns G Y ho (fd_plain hd) hcd hmg hobj hints hlen hg) fun r s' hq => ?_)
  obtain ⟨rfl, h2, h3, h4⟩ := hq
  exact ⟨.inl ⟨.bool true, .bool true, [], rfl, fun _ => rfl, .bool true, post_true l _, fun _ => ⟨List.Pairwise.nil, fun _ hm => (nomatch hm)⟩⟩, h2, h3, h4⟩


/-! ### rules over ANY heap (no ledger) from facts about the written part K: the library's own take a ledger (News) for what they write -/
section
variable {prog : Program} {w : World} {A : Around} {E : Value → Shared → Prop} {s : Shared} {K : Frag}





/-! the whole heap as the ledger: makes every rule that writes through a ledger a rule over any heap -/

end
end Att

namespace L2
open PySem PySem.Spec PyProof.Rows

theorem vals_ints : ∀ {vs : List Value} {ns : List Int}, IntsAre vs ns → Vals (ns.map V.int) vs
  | _, _, .nil => .nil
  | _, _, .cons n t h => .cons ⟨t, rfl⟩ (vals_ints h)

/-- nothing is tracked but the script, known to the object (or it is an object of the module) -/
def Only (H : Hp) : Prop := ∀ b, H b = none ∨ ∃ o xs, H b = some (.frz o (.lst xs))

/-- THE HEAD: the law's promise, at the heap behind the top. F, the promise of the law's def, may use that base is part of the heap (so K.In base, base.Ns mainGlobals mg stand in Mod) -/
theorem law_call {P : Program} {w : World} {K : PySem.W.Frag} {mg mb : Str → Option Value} {CX : CXT} {k : Nat} {fa a : Addr} {fd : FuncData} {x : Str} {sp : Sp} {s₁ : Shared} {vs : List Value} {ns : List Int}
    (KX : K.In s₁.heap) (hns : s₁.heap.Ns mainGlobals mg) (hb : s₁.heap.Ns builtinsNs mb) (hbb : ∀ x : Str, x ≠ "__name__" → mb x = bootBuiltins x) (hlim : s₁.heap.NoLimit) (hg : s₁.gens = #[])
    (ha : s₁.heap.get? a = some { cls := .type "list", data := .seq vs.toArray }) (hi : IntsAre vs ns) (hl : ns.length ≤ sizeLine) (hr : Room k callerA)
    (F : ∀ base : Heap, K.In base → base.Ns mainGlobals mg → FnOk P w K mg base CX k fa fd [x] sp) (hbind : ∀ (s : Shared) (u : Value), BindsTo s fd ⟨[u], []⟩ [(x, u)])
    (hsp : ∀ H : Hp, Only H → SqL K H a (ns.map V.int) → sp [.ref a] H (fun v _ => v = .bl true) fun _ _ _ => False)
    (hCX : ∀ H e s', CX [] H s₁ (fun _ _ _ => False) e s' → False) :
    codeAny (model P w) callerA (.call (.ref fa) ⟨[.ref a], []⟩) (fun r s' => r = .ok (.ret (.bool true)) ∧ OldK s₁.heap s'.heap ∧ s'.os = s₁.os ∧ AllBare s'.gens) s₁ := by
  have rv := vals_ints hi
  have lenV := hi.length
  -- from an abstract heap in which nothing but the script may be tracked
  have core : ∀ H : Hp, Only H → SqL K H a (ns.map V.int) → HOk P w H s₁.heap → (∀ b, H b ≠ none → b = a) → (H a ≠ none → K.lookup a = none) →
      codeAny (model P w) callerA (.call (.ref fa) ⟨[.ref a], []⟩) (fun r s' => r = .ok (.ret (.bool true)) ∧ OldK s₁.heap s'.heap ∧ s'.os = s₁.os ∧ AllBare s'.gens) s₁ := by
    intro H hO hS hok hA hK
    have base_of : ∀ {b : Addr} {o : Obj}, s₁.heap.get? b = some o → H b = none → (hidT s₁.heap H).get? b = some o := fun e n => hidT_get e n
    have noA : ∀ {b : Addr} {o : Obj} {es : Array DictEntry} {ep : Nat}, s₁.heap.get? b = some o → o.data = .dict es ep → H b = none := fun {b o es ep} e d => by
      cases q : H b with
      | none => rfl
      | some u =>
        have e' : b = a := hA b (by rw [q]; simp)
        subst e'
        rw [ha] at e; cases e
        have d' : Data.seq vs.toArray _ = Data.dict es ep := d
        cases d'
    have nsK : ∀ {b : Addr} {m : Str → Option Value}, s₁.heap.Ns b m → (hidT s₁.heap H).Ns b m := fun {b m} ⟨o, es, ep, e, d, r⟩ => ⟨o, es, ep, base_of e (noA e d), d, r⟩
    have hKb : K.In (hidT s₁.heap H) := fun b o e => base_of (KX b o e) (by
      cases q : H b with
      | none => rfl
      | some u =>
        have e' : b = a := hA b (by rw [q]; simp)
        subst e'
        rw [hK (by rw [q]; simp)] at e; cases e)
    have hM : Mod K mg (hidT s₁.heap H) := ⟨hKb, nsK hns, ⟨mb, nsK hb, hbb⟩, let ⟨mc, h1, h2⟩ := hlim; ⟨mc, nsK h1, h2⟩⟩
    have e0 : Env0 P w K mg (hidT s₁.heap H) callerA [] s₁ H := ⟨rfl, hM, fun b o e => of_hidT e, Nat.le_of_eq (hidT_size _ _), trivial, fun b hb => absurd (show b ∈ ([] : List Addr) from hb) (by simp), hok, .of_eq hg⟩
    refine codeAny_mono ((F _ hKb (nsK hns)).run callerA [] s₁ H ⟨[.ref a], []⟩ [.ref a] [.ref a] _ _ hr e0 (hbind s₁ (.ref a)) (.cons rfl .nil) (hsp H hO hS)) fun r s' h => ?_
    cases r with
    | error e => exact (hCX H e s' h).elim
    | ok fl =>
      cases fl with
      | next => exact False.elim h
      | brk => exact False.elim h
      | cont => exact False.elim h
      | ret u =>
        obtain ⟨v, H', os, bare, un, hok', r', q⟩ := h
        have q' : v = .bl true := q
        subst q'
        obtain rfl : u = Value.bool true := r'
        refine ⟨rfl, OldK.of_keep fun b o e => ?_, os, bare⟩
        cases q : H b with
        | none => exact un.keep b o e q (by intro z; exact absurd (show b ∈ ([] : List Addr) from z) (by simp)) (by simp)
        | some u =>
          rcases hO b with z | ⟨ob, xs, z⟩
          · rw [q] at z; cases z
          · have z2 := un.frzs b ob _ z
            obtain ⟨e1, _⟩ := hok b _ z
            obtain ⟨e2, _⟩ := hok' b _ z2
            rw [e] at e1; cases e1
            exact e2
  cases hk : K.lookup a with
  | some o =>
    -- the script is one of the module's own objects
    have e := KX a o hk
    rw [ha] at e
    cases e
    refine core (fun _ => none) (fun _ => .inl rfl) (.inr ⟨_, vs.toArray, _, hk, rfl, rfl, rfl, by rw [List.size_toArray, lenV]; exact hl, by simpa using rv⟩) (fun b u z => by have z' : (none : Option HO) = some u := z; cases z') (fun b z => absurd rfl z) fun z => absurd rfl z
  | none =>
    refine core (fun b => if b = a then some (.frz { cls := .type "list", data := .seq vs.toArray } (.lst (ns.map V.int))) else none) (fun b => ?_) (.inl (.inr ⟨{ cls := .type "list", data := .seq vs.toArray }, if_pos rfl⟩)) (fun b u z => ?_) (fun b z => ?_) fun _ => hk
    · by_cases hb : b = a
      · exact .inr ⟨_, _, if_pos hb⟩
      · exact .inl (if_neg hb)
    · by_cases hb : b = a
      · have z' := (if_pos hb).symm.trans z
        cases z'
        subst hb
        exact ⟨ha, by rw [List.length_map]; exact hl, vs, _, rv, ha⟩
      · have z' := (if_neg hb).symm.trans z
        cases z'
    · by_cases hb : b = a
      · exact hb
      · exact absurd (if_neg hb) z
end L2

namespace L2
open PySem PySem.Spec PyProof.Rows


/-- the goal that k_head leaves (case hc), from the law's promise. F gives the function object fd (K's own) once, then the promise over every base -/
theorem walk_of {l : PySem.W.OpenLaw} {n k : Nat} {q : Program} {loose : List Str} {XP : (Str → Option Value) → Heap → Prop} {YP : World → Heap → Prop} {d : DefRec} {K : Params → PySem.W.Frag} {CX : World → CXT} {sp : World → Sp} {x : Str}
    (hn : l.most = some n) (hn2 : n ≤ sizeLine) (hdf : d.params.defaults = []) (hr : Room k callerA)
    (hY : ∀ (w : World) (h : Heap), YP w h → (K w.params).In h)
    (F : ∀ (w : World) (mg : Str → Option Value) (fa : Addr) (h : Heap), (K w.params).In h → h.Ns mainGlobals mg → mg d.name = some (.ref fa) →
      ∃ fd : FuncData, (∀ (s : Shared) (u : Value), BindsTo s fd ⟨[u], []⟩ [(x, u)]) ∧
        ∀ base : Heap, (K w.params).In base → base.Ns mainGlobals mg → FnOk l.prog w (K w.params) mg base (CX w) k fa fd [x] (sp w))
    (hsp : ∀ (w : World) (H : Hp) (a : Addr) (ns : List Int), ns.length ≤ n → Only H → SqL (K w.params) H a (ns.map V.int) → sp w [.ref a] H (fun v _ => v = .bl true) fun _ _ _ => False)
    (hCX : ∀ (w : World) (H : Hp) (s : Shared) (e : Value) (s' : Shared), CX w [] H s (fun _ _ _ => False) e s' → False) :
    PySem.W.WalkO q loose XP YP l.row.toRowW d [] (fun f vs => PySem.call f vs) := by
  refine Att.attach_call hn hdf fun w s₀ s₁ mg mb fa o pm cd doc a vs ns G Y ho hd hcd hmg hobj hints hlen hg => ?_
  have KX := hY w _ Y
  obtain ⟨fd, hb, hF⟩ := F w mg fa _ KX G.T.g hmg
  exact law_call KX G.T.g G.T.b G.T.builtins G.T.nolimit hg hobj hints (Nat.le_trans hlen hn2) hr hF hb (fun H hO hS => hsp w H a ns hlen hO hS) fun H e s' => hCX w H s₁ e s'
end L2



/-! SHORT WORDS over the layer: a def of the text, its body, what a loop and a test want. -/
namespace L2
open PySem PySem.Spec PyProof.Rows

/-! ### the text by places -/
/-- the j-th statement of a class's body -/
def inClass (s : Stmt) (j : Nat) : Stmt := match s with
  | .ClassDef _ _ _ body _ _ _ _ _ _ _ => body.getD j (.Pass ⟨0, 0, 0, 0⟩)
  | _ => .Pass ⟨0, 0, 0, 0⟩
def defArgs (s : Stmt) : Arguments := match s with
  | .FunctionDef _ a _ _ _ _ _ _ _ _ => a
  | _ => { posonlyargs := [], args := [], vararg := none, kwonlyargs := [], kw_defaults := [], kwarg := none, defaults := [] }
def defBody (s : Stmt) : List Stmt := match s with
  | .FunctionDef _ _ b _ _ _ _ _ _ _ => b
  | _ => []
def defScope (s : Stmt) : Scope := match s with
  | .FunctionDef _ _ _ _ _ _ sc _ _ _ => sc
  | _ => { kind := .function, names := [], isGenerator := false, isCoroutine := false }

/-! ### no exception leaves a def -/
abbrev CX0 : CXT := fun _ _ _ _ _ _ => False
abbrev E0 : XK := fun _ _ _ => False
theorem pass0 {X : Cx} : Passes CX0 X E0 := fun _ _ _ _ _ _ _ h => h.elim

/-! ### a def (or method) of the text as it stands behind the top -/
structure Fun (K : PySem.W.Frag) (x qual : Str) (st : Stmt) (f : Addr) (fd : FuncData) : Prop where
  ex : ∃ (oc : Value) (od : Option Addr) (kV doc pm : Value) (an : Option Addr) (cdv ct : Value) (osl : Array (Option Value)),
    fd = PySem.W.fnOf x qual (defArgs st) (defBody st) (defScope st) .none kV doc pm an cdv ct ∧ K.lookup f = some ⟨oc, od, .func fd, osl⟩ ∧ PySem.W.codeIn K cdv qual = true
  kp : PySem.W.keepIn K (.ref f) = true
section
variable {P : Program} {w : World} {K : PySem.W.Frag} {mg : Str → Option Value} {base : Heap}
/-- THE RULE for a def: its body as a term of rules, and the reading of that term -/
theorem Fun.ok {x qual : Str} {st : Stmt} {f : Addr} {fd : FuncData} {N ps : List Str} {k : Nat} {sp : Sp} (F : Fun K x qual st f fd) (S : FnScope N ps (defScope st)) (len : ∀ vs H Q E, sp vs H Q E → vs.length = ps.length)
    (hbody : ∀ (cdv : Value) (A : Around) (outer : List Env) (s : Shared) (H : Hp) (vs : List V) (Q : VK) (E : XK), Room k (A.deeper (envOfC qual (defScope st) s.heap.objs.size f cdv)) → sp vs H Q E →
      ∃ t, PSs (cxOf CX0 P w K mg base N qual (defScope st) f cdv A outer s H E).nox (defBody st) t ∧ t { nx := fun _ H' => Q .non H', rt := Q } (start N vs) H) : FnOk P w K mg base CX0 (k + 1) f fd ps sp := by
  obtain ⟨oc, od, kV, doc, pm, an, cdv, ct, osl, rfl, lk, hcd⟩ := F.ex
  refine fn_of lk hcd S len fun A outer s H vs Q E hr hsp => ?_
  obtain ⟨t, h, q⟩ := hbody cdv A outer s H vs Q E hr hsp
  exact ⟨t, h.nox, q⟩
/-- how its arguments bind (no defaults): h is «fun _ _ _ _ _ _ us hl => match us, hl with | [_, _], _ => rfl», one _ a parameter -/
theorem Fun.binds {x qual : Str} {st : Stmt} {f : Addr} {fd : FuncData} {ps : List Str} (F : Fun K x qual st f fd)
    (h : ∀ (kV doc pm : Value) (an : Option Addr) (cdv ct : Value) (us : List Value), us.length = ps.length → bindArgs (PySem.W.fnOf x qual (defArgs st) (defBody st) (defScope st) .none kV doc pm an cdv ct) ⟨us, []⟩ = pure (ps.zip us)) : Binds K fd ps [] := by
  obtain ⟨oc, od, kV, doc, pm, an, cdv, ct, osl, rfl, lk, hcd⟩ := F.ex
  exact .all (h kV doc pm an cdv ct)
theorem fun_mk {x qual : Str} {st : Stmt} {f : Addr} {oc : Value} {od an : Option Addr} {osl : Array (Option Value)} {kV doc pm cdv ct : Value} (l : K.lookup f = some ⟨oc, od, .func (PySem.W.fnOf x qual (defArgs st) (defBody st) (defScope st) .none kV doc pm an cdv ct), osl⟩)
    (c : PySem.W.codeIn K cdv qual = true) (k : PySem.W.keepIn K (.ref f) = true) : Fun K x qual st f (PySem.W.fnOf x qual (defArgs st) (defBody st) (defScope st) .none kV doc pm an cdv ct) := ⟨⟨oc, od, kV, doc, pm, an, cdv, ct, osl, rfl, l, c⟩, k⟩
end
theorem small1000 {n : Nat} (h : n ≤ 1000) : n < sizeLine := Nat.lt_of_le_of_lt h (by decide)

/-! ### expressions in short: the name that stands in the i-th slot -/
section
variable {X : Cx}
theorem pv (i : Nat) {x : Str} {pos : Pos} (hN : X.N[i]? = some x := by rfl) (hv : Vis X.env.scope x := by first | exact Or.inl rfl | exact Or.inr (Or.inl rfl) | exact Or.inr (Or.inr rfl)) (hd : (x == ("__debug__" : Str)) = false := by decide)
    (hcd : (x == ("__classdict__" : Str)) = false := by decide) : PE X (.Name x pos) (tVar i) := pe_var hN hv hd hcd
end

/-! ### tests -/
theorem iteF {A B : Prop} (h : B) : if false = true then A else B := by
  rw [if_neg Bool.false_ne_true]
  exact h
theorem iteT {A B : Prop} (h : A) : if true = true then A else B := by
  rw [if_pos rfl]
  exact h
theorem ite2 {c A B : Prop} [Decidable c] (h1 : c → A) (h2 : ¬ c → B) : if c then A else B := by
  by_cases h : c
  · rw [if_pos h]
    exact h1 h
  · rw [if_neg h]
    exact h2 h
theorem iteNS {c A B : Prop} [Decidable c] (hc : c) (h : B) : if (!decide c) = true then A else B := by
  rw [decide_eq_true hc]
  exact iteF h

/-! ### heaps -/
/-- all that was tracked is as it was -/
def Same (H H' : Hp) : Prop := ∀ b o, H b = some o → H' b = some o
theorem Same.refl (H : Hp) : Same H H := fun _ _ h => h
theorem Same.trans {H H1 H2 : Hp} (a : Same H H1) (b : Same H1 H2) : Same H H2 := fun c o h => b c o (a c o h)
theorem Same.free {H H' : Hp} (e : Same H H') {l : Addr} (h : H' l = Option.none) : H l = Option.none := by
  cases q : H l with
  | none => rfl
  | some o =>
    rw [e l o q] at h
    cases h
theorem Same.seq {K : PySem.W.Frag} {H H' : Hp} {a : Addr} {xs : List V} (e : Same H H') (h : SqL K H a xs) : SqL K H' a xs := by
  rcases h with (h | ⟨o, h⟩) | h
  · exact .inl (.inl (e _ _ h))
  · exact .inl (.inr ⟨o, e _ _ h⟩)
  · exact .inr h

end L2

namespace L2
open PySem PySem.Spec PyProof.Rows

/-! ### comprehensions -/
section
variable {prog : Program} {w : World} {A : Around} {R : Result → Shared → Prop} {s : Shared}
theorem compLoop_any {elt target iter : Expr} {ifs : List Expr} {scope : Scope} {pos : Pos} {it acc : Value} {env : Env} (I : Nat → Shared → Prop)
    (turn : ∀ n s, I n s → wpAny (model prog w) A (pyNext it) (fun r s₁ => match r with
      | none => R (.ok .next) s₁
      | some v => wpAny (model prog w) A (letOwnedTupleGo target it v) (fun _ s₁' => wpAny (model prog w) A (assign target env v) (fun _ s₂ =>
          wpAny (model prog w) A (forIn ifs true fun c r => if r = true then do let ok ← isTrue c env (eval c env); pure (ForInStep.yield ok) else pure (ForInStep.yield r)) (fun ok s₃ =>
            if ok = true then wpAny (model prog w) A (eval elt env) (fun x s₄ =>
              wpAny (model prog w) A (call (.builtin "list.append") [acc, x]) (fun _ s₅ => ∃ m, m < n ∧ I m s₅) (fun _ _ => False) s₄) (fun _ _ => False) s₃
            else ∃ m, m < n ∧ I m s₃) (fun _ _ => False) s₂) (fun _ _ => False) s₁') (fun _ _ => False) s₁) (fun _ _ => False) s)
    (n : Nat) (h : I n s) :
    codeAny (model prog w) A (.compLoop (.ListComp elt [⟨target, iter, ifs, 0⟩] scope pos) 0 it acc env) R s := by
  refine codeAny_loop rfl I (fun n s hI => ?_) n h
  show wpAny _ A ((compTurn (.ListComp elt [⟨target, iter, ifs, 0⟩] scope pos) 0 it acc env).onRaise (fun x => do noteFrame x env; theTreesLotGoes x)) _ _ s
  refine wpAny_noted ?_
  rw [compTurn_list]
  refine wpAny_bind (wpAny_standAt (wpAny_bind (wpAny_mono (turn n s hI) (fun r s₁ h₁ => ?_) fun _ _ h' => h'.elim)))
  cases r with
  | none => exact wpAny_pure h₁
  | some v =>
    refine wpAny_bind (wpAny_mono h₁ (fun _ s₁' h₁' => ?_) fun _ _ h' => h'.elim)
    refine wpAny_bind (wpAny_mono h₁' (fun _ s₂ h₂ => wpAny_bind (wpAny_mono h₂ (fun ok s₃ h₃ => ?_) fun _ _ h' => h'.elim)) fun _ _ h' => h'.elim)
    cases ok with
    | false => exact wpAny_pure ⟨rfl, h₃⟩
    | true =>
      exact wpAny_bind (wpAny_bind (wpAny_mono h₃ (fun x s₄ h₄ => wpAny_bind (wpAny_mono h₄ (fun _ s₅ h₅ => wpAny_pure (wpAny_pure ⟨rfl, h₅⟩)) fun _ _ h' => h'.elim)) fun _ _ h' => h'.elim))
end

/-- the closure of a comprehension's block -/
def clsOf (env : Env) : List (Str × NameKind) → List (Str × Addr) → List (Str × Addr)
  | [], cs => cs
  | (n, k) :: r, cs => clsOf env r (if k == .free then (n, (env.cells.lookup n).getD 0) :: cs else cs)
theorem closure_go {env : Env} : ∀ (l : List (Str × NameKind)) (cs : List (Str × Addr)), (∀ x ∈ l, x.2 = .free → ∃ c, env.cells.lookup x.1 = some c) →
    (do let r ← forIn l cs (fun (x : Str × NameKind) (cs : List (Str × Addr)) => if (x.2 == .free) = true then do let a ← cellOf env x.1; pure (ForInStep.yield ((x.1, a) :: cs)) else pure (ForInStep.yield cs)); pure r : Sem (List (Str × Addr))) = pure (clsOf env l cs)
  | [], cs, _ => rfl
  | (n, k) :: r, cs, h => by
    have ih := fun cs' => closure_go (env := env) r cs' fun x hx => h x (List.mem_cons_of_mem _ hx)
    rw [List.forIn_cons]
    cases hk : (k == NameKind.free) with
    | false =>
      simp only [hk, Bool.false_eq_true, if_false]
      show (do let r ← forIn r cs _; pure r : Sem _) = _
      rw [ih]
      simp only [clsOf, hk, Bool.false_eq_true, if_false]
    | true =>
      obtain ⟨c, hc⟩ := h (n, k) List.mem_cons_self (by simpa using hk)
      have hco : cellOf env n = pure c := by unfold cellOf; simp only at hc; rw [hc]
      simp only [hk, if_true, hco]
      show (do let r ← forIn r ((n, c) :: cs) _; pure r : Sem _) = _
      rw [ih]
      simp only at hc
      simp only [clsOf, hk, if_true, hc, Option.getD_some]
theorem closure_of {env : Env} {scope : Scope} (h : ∀ x ∈ scope.names, x.2 = .free → ∃ c, env.cells.lookup x.1 = some c) : closureFor scope env = pure (clsOf env scope.names []) := by
  have q := closure_go scope.names [] h
  unfold closureFor
  exact congrArg (fun (m : Sem (List (Str × Addr))) => m >>= pure) q
theorem cls_in {env : Env} : ∀ (l : List (Str × NameKind)) (cs : List (Str × Addr)) (n : Str) (c : Addr), (∀ x ∈ l, x.2 = .free → ∃ c, env.cells.lookup x.1 = some c) →
    (clsOf env l cs).lookup n = some c → env.cells.lookup n = some c ∨ cs.lookup n = some c
  | [], cs, n, c, _, h => .inr h
  | (m, k) :: r, cs, n, c, hf, h => by
    have ih := cls_in r (if (k == .free) = true then (m, (env.cells.lookup m).getD 0) :: cs else cs) n c (fun x hx => hf x (List.mem_cons_of_mem _ hx)) h
    cases hk : (k == NameKind.free) with
    | false =>
      simp only [hk, Bool.false_eq_true, if_false] at ih
      exact ih
    | true =>
      simp only [hk, if_true] at ih
      rcases ih with ih | ih
      · exact .inl ih
      · cases hx : n == m with
        | true =>
          simp only [List.lookup_cons, hx] at ih
          obtain ⟨c', hc'⟩ := hf (m, k) List.mem_cons_self (by simpa using hk)
          simp only at hc'
          rw [hc'] at ih
          have e : n = m := by simpa using hx
          subst e
          exact .inl (hc'.trans ih)
        | false =>
          simp only [List.lookup_cons, hx] at ih
          exact .inr ih
theorem cls_keep {env : Env} : ∀ (l : List (Str × NameKind)) (cs : List (Str × Addr)) (n : Str), (∃ c, cs.lookup n = some c) → ∃ c, (clsOf env l cs).lookup n = some c
  | [], cs, n, h => h
  | (m, k) :: r, cs, n, ⟨c, h⟩ => by
    refine cls_keep r _ n ?_
    by_cases hk : (k == NameKind.free) = true
    · rw [if_pos hk]
      cases hx : n == m with
      | true => exact ⟨(env.cells.lookup m).getD 0, by simp only [List.lookup_cons, hx]⟩
      | false => exact ⟨c, by simp only [List.lookup_cons, hx]; exact h⟩
    · rw [if_neg hk]
      exact ⟨c, h⟩
theorem cls_has {env : Env} : ∀ (l : List (Str × NameKind)) (cs : List (Str × Addr)) (n : Str), (n, NameKind.free) ∈ l → ∃ c, (clsOf env l cs).lookup n = some c
  | [], _, _, h => absurd h (by simp)
  | (m, k) :: r, cs, n, h => by
    rcases List.mem_cons.mp h with e | e
    · cases e
      refine cls_keep r _ _ ?_
      exact ⟨_, by simp [List.lookup_cons]; rfl⟩
    · exact cls_has r _ n e
theorem relabel_lookup {env : Env} : ∀ (names : List (Str × NameKind)) (x : Str),
    (names.map fun (n, k) => if (k == NameKind.free && env.scope.kind == .function && env.kindOf n == some .cell) then (n, NameKind.cell) else (n, k)).lookup x
      = (names.lookup x).map fun k => if (k == NameKind.free && env.scope.kind == .function && env.kindOf x == some .cell) = true then NameKind.cell else k
  | [], x => rfl
  | (n, k) :: r, x => by
    have ih := relabel_lookup (env := env) r x
    show List.lookup x ((if (k == NameKind.free && env.scope.kind == .function && env.kindOf n == some .cell) = true then (n, NameKind.cell) else (n, k)) :: _) = _
    cases hx : x == n with
    | true =>
      have e : x = n := by simpa using hx
      subst e
      by_cases hc : (k == NameKind.free && env.scope.kind == .function && env.kindOf x == some .cell) = true
      · rw [if_pos hc]; simp only [List.lookup_cons, hx, Option.map_some]; rw [if_pos hc]
      · rw [if_neg hc]; simp only [List.lookup_cons, hx, Option.map_some]; rw [if_neg hc]
    | false =>
      by_cases hc : (k == NameKind.free && env.scope.kind == .function && env.kindOf n == some .cell) = true
      · rw [if_pos hc]; simp only [List.lookup_cons, hx]; exact ih
      · rw [if_neg hc]; simp only [List.lookup_cons, hx]; exact ih

/-- the static part: the block's names, the block around -/
def compOk (outer scope : Scope) : Bool :=
  scope.kind == .function && outer.kind == .function && scope.names.all fun x => x.2 != .cell && (x.2 != .local || scope.names.lookup x.1 == some .local) && (x.2 != .free || (outer.names.lookup x.1 == some .cell || outer.names.lookup x.1 == some .free))
def srcOk (XN N : List Str) (src : List (Option Nat)) (scope : Scope) : Bool :=
  src.length == N.length && (List.range N.length).all fun i => match src[i]?.join with
    | none => true
    | some j => N[i]? == XN[j]? && (N[i]?).any fun x => scope.names.lookup x == some .free
/-- what the block's names hold at its start -/
def srcSt (src : List (Option Nat)) (σ : St) : St := src.map fun o => o.bind fun j => (σ[j]?).join

def cxC (X : Cx) (N : List Str) (scope : Scope) (s : Shared) (H : Hp) (ex : List Addr) : Cx where
  prog := X.prog
  w := X.w
  K := X.K
  mg := X.mg
  base := X.base
  A := X.A
  N := N
  s₀ := s
  H₀ := H
  env := compEnvC scope (clsOf X.env scope.names []) s.heap.objs.size X.env
  outer := X.stack
  stack := X.stack
  ex := ex
  fn := fun _ => false
  calm := X.calm
  pn := []
  xe := fun _ _ => False

structure CompFacts (X : Cx) (scope : Scope) : Prop where
  kind : scope.kind = .function
  nocell : ∀ x ∈ scope.names, x.2 ≠ .cell
  names : ∀ x ∈ scope.names, x.2 = .local → scope.names.lookup x.1 = some .local
  free : ∀ x ∈ scope.names, x.2 = .free → X.env.kindOf x.1 = some .cell ∨ X.env.kindOf x.1 = some .free
theorem compFacts {X : Cx} {scope : Scope} (h : compOk X.env.scope scope = true) : CompFacts X scope := by
  unfold compOk at h
  simp only [Bool.and_eq_true, beq_iff_eq, List.all_eq_true, Bool.or_eq_true, bne_iff_ne] at h
  obtain ⟨⟨h1, _⟩, h2⟩ := h
  refine ⟨h1, fun x hx => (h2 x hx).1.1, fun x hx e => ?_, fun x hx e => ?_⟩
  · rcases (h2 x hx).1.2 with z | z
    · exact absurd e z
    · exact z
  · rcases (h2 x hx).2 with z | z
    · exact absurd e z
    · exact z
theorem CompFacts.cells {X : Cx} {scope : Scope} (f : CompFacts X scope) (ok : X.Ok) : ∀ x ∈ scope.names, x.2 = .free → ∃ c, X.env.cells.lookup x.1 = some c := fun x hx e => ok.has x.1 (f.free x hx e)
theorem CompFacts.cl {X : Cx} {scope : Scope} (f : CompFacts X scope) (ok : X.Ok) {n : Str} {c : Addr} (h : (clsOf X.env scope.names []).lookup n = some c) : X.env.cells.lookup n = some c := by
  rcases cls_in _ _ _ _ (f.cells ok) h with z | z
  · exact z
  · cases z
theorem CompFacts.kf {X : Cx} {scope : Scope} (f : CompFacts X scope) {x : Str} (h : (relabel scope X.env).names.lookup x = some .cell ∨ (relabel scope X.env).names.lookup x = some .free) : scope.names.lookup x = some .free := by
  unfold relabel at h
  simp only at h
  rw [relabel_lookup] at h
  cases e : scope.names.lookup x with
  | none => rw [e] at h; rcases h with z | z <;> cases z
  | some k =>
    rw [e] at h
    simp only [Option.map_some, Option.some.injEq] at h
    cases k with
    | free => rfl
    | cell => exact absurd rfl (f.nocell _ (PySem.mem_of_lookup e))
    | _ => simp at h
theorem CompFacts.fk {X : Cx} {scope : Scope} {x : Str} (h : scope.names.lookup x = some .free) : (relabel scope X.env).names.lookup x = some .cell ∨ (relabel scope X.env).names.lookup x = some .free := by
  unfold relabel
  simp only
  rw [relabel_lookup, h]
  simp only [Option.map_some, Option.some.injEq]
  split
  · exact .inl rfl
  · exact .inr rfl
theorem srcOk_ix {XN N : List Str} {src : List (Option Nat)} {scope : Scope} (h : srcOk XN N src scope = true) : src.length = N.length ∧ ∀ (i : Nat) (x : Str) (j : Nat), N[i]? = some x → src[i]? = some (some j) → XN[j]? = some x ∧ scope.names.lookup x = some .free := by
  unfold srcOk at h
  simp only [Bool.and_eq_true, beq_iff_eq, List.all_eq_true] at h
  refine ⟨h.1, fun i x j h1 h2 => ?_⟩
  have hi : i < N.length := (List.getElem?_eq_some_iff.mp h1).1
  have q := h.2 i (List.mem_range.mpr hi)
  rw [h2, h1] at q
  simp only [Option.join_some, Bool.and_eq_true, beq_iff_eq, Option.any_some] at q
  exact ⟨q.1.symm, q.2⟩
section
variable {X : Cx} {pins : List (Addr × Obj)} {σ : St} {H : Hp} {s : Shared}
/-- the block's start -/
theorem comp_start {N : List Str} {src : List (Option Nat)} {scope : Scope} {ex : List Addr} {h1 : Heap} {m : Str → Option Value} {tk : Nat} (I : Inv X pins σ H s) (f : CompFacts X scope) (hsrc : srcOk X.N N src scope = true)
    (hex : ∀ b ∈ ex, b < s.heap.objs.size ∧ b ≠ X.env.locals ∧ b ∉ X.fs ∧ (∀ x c, X.env.cells.lookup x = some c → c ≠ b) ∧ ∀ o, X.base.get? b ≠ some o)
    (hn : h1.Ns s.heap.objs.size m) (hk : ∀ b o, s.heap.get? b = some o → h1.get? b = some o) :
    Inv (cxC X N scope s H ex) [] (srcSt src σ) H { s with heap := h1, toks := tk } := by
  obtain ⟨hlen, hix⟩ := srcOk_ix hsrc
  have ok := I.ok
  have cellL : ∀ x c, (clsOf X.env scope.names []).lookup x = some c → ∃ v, s.heap.IsCell c v := fun x c e => I.cell x c (f.cl ok e)
  have cellLt : ∀ x c, (clsOf X.env scope.names []).lookup x = some c → c < s.heap.objs.size := fun x c e => by
    obtain ⟨v, o, ho, _⟩ := cellL x c e
    exact Heap.lt_size ho
  have fsL : ∀ b ∈ frs X.stack, b ∈ X.env.locals :: X.fs := I.stkSub
  refine ⟨⟨ok.mod, f.kind, ok.glob, ok.blt, Nat.le_refl _, fun x y c h1 h2 => ok.inj x y c (f.cl ok h1) (f.cl ok h2), fun x hx => ?_, fun x c hx => ?_, ok.hd, ok.frames, .inl rfl, fun b hb => ⟨Nat.ne_of_lt (hex b hb).1, fun x c e => (hex b hb).2.2.2.1 x c (f.cl ok e)⟩, I.bs, Nat.le_trans ok.bsz I.sz, fun b o e hb => (hex b hb).2.2.2.2 o e, fun b hb hb' => ?_, I.stack, I.stkFree⟩,
    rfl, I.bare, Un.kept hk, ⟨m, hn, fun i x v e1 e2 e3 => ?_⟩, fun x c e => ?_, I.hok.fresh (Nat.le_refl _), fun x c e => I.freeC x c (f.cl ok e), fun p hp => absurd (show p ∈ ([] : List (Addr × Obj)) from hp) (by simp), I.hok.kept hk, ?_⟩
  · exact cls_has _ _ _ (PySem.mem_of_lookup (f.kf hx))
  · cases hx
  · rcases List.mem_cons.mp (fsL b hb') with z | z
    · exact (hex b hb).2.1 z
    · exact (hex b hb).2.2.1 z
  · have e2' : (srcSt src σ)[i]? = some (some v) := e2
    unfold srcSt at e2'
    rw [List.getElem?_map] at e2'
    cases hs : src[i]? with
    | none => rw [hs] at e2'; cases e2'
    | some o =>
      rw [hs] at e2'
      cases o with
      | none => cases e2'
      | some j =>
        obtain ⟨q1, q2⟩ := hix i x j e1 hs
        have e4 : σ[j]? = some (some v) := by
          simp only [Option.map_some, Option.bind_some, Option.some.injEq] at e2'
          cases z : σ[j]? with
          | none => rw [z] at e2'; cases e2'
          | some o => rw [z] at e2'; simp only [Option.join_some] at e2'; rw [e2']
        have kx := f.free (x, .free) (PySem.mem_of_lookup q2) rfl
        obtain ⟨mX, hnX, hl⟩ := I.loc
        obtain ⟨u, r, l⟩ := hl j x v q1 e4 (by rcases kx with z | z; exact .inr (.inl z); exact .inr (.inr z))
        refine ⟨u, r, .inr ⟨CompFacts.fk (X := X) q2, ?_⟩⟩
        rcases l with ⟨l, _⟩ | ⟨_, c, ec, ic⟩
        · rcases kx with z | z
          · rw [z] at l; cases l
          · rw [z] at l; cases l
        · obtain ⟨c', hc'⟩ := cls_has (env := X.env) scope.names [] x (PySem.mem_of_lookup q2)
          have z := f.cl ok hc'
          rw [ec] at z
          cases z
          obtain ⟨oc, ho, hd⟩ := ic
          exact ⟨c, hc', oc, hk c oc ho, hd⟩
  · obtain ⟨v, o, ho, hd⟩ := cellL x c e
    exact ⟨v, o, hk c o ho, hd⟩
  · show (srcSt src σ).length = N.length
    unfold srcSt
    rw [List.length_map]
    exact hlen

/-- the tests of a comprehension -/
def PIf (X : Cx) (ifs : List Expr) (t : TT) : Prop :=
  ∀ (pins : List (Addr × Obj)) (s : Shared) (σ : St) (H : Hp) (Q : Bool → Hp → Prop), Inv X pins σ H s → t σ H Q →
    wpAny (model X.prog X.w) X.A (forIn ifs true fun c r => if r = true then do let ok ← isTrue c X.env (eval c X.env); pure (ForInStep.yield ok) else pure (ForInStep.yield r)) (TP X pins σ Q) X.xe s
def tYes : TT := fun _ H Q => Q true H
theorem pif_nil : PIf X [] tYes := fun pins s σ H Q I h => wpAny_pure ⟨H, I, h⟩
theorem pif_one {c : Expr} {t : TT} (hc : PT X c t) : PIf X [c] t := by
  intro pins s σ H Q I h
  rw [List.forIn_cons]
  simp only [if_true]
  refine wpAny_bind (wpAny_bind (thn (hc pins s σ H Q I h) fun b s1 q => wpAny_pure ?_))
  exact wpAny_pure q

/-- behind the iterator: the new list is filled, turn by turn -/
def CompEnd (J : It) (src : List (Option Nat)) (g : TG) (tt : TT) (te : TE) (σ : St) (H1 : Hp) (Q : VK) : Prop := ∀ acc, H1 acc = none →
  ∃ W : Nat → Nat → St → Hp → Prop, (∃ m, W 0 m (srcSt src σ) (upd H1 acc (.lst []))) ∧ ∀ i m σ H, W i m σ H →
    (J.stop i H ∧ Q (.ref acc) H) ∨ (J.go i H ∧ ∃ N : St → Hp → Prop, (∀ σ' H', N σ' H' → ∃ m', m' < m ∧ W (i + 1) m' σ' H') ∧ ∀ x H', J.yld i H x H' → g x σ H' fun σ2 H2 => tt σ2 H2 fun b H3 =>
      if b = true then te σ2 H3 fun y H4 => ∃ ys, H4 acc = some (.lst ys) ∧ ys.length < sizeLine ∧ N σ2 (upd H4 acc (.lst (ys ++ [y]))) else N σ2 H3)
def tComp (src : List (Option Nat)) (wi : TI) (g : TG) (tt : TT) (te : TE) : TE := fun σ H Q => wi σ H fun J H1 => CompEnd J src g tt te σ H1 Q

theorem comp_run {elt tg iter : Expr} {ifs : List Expr} {scope : Scope} {pos : Pos} {N : List Str} {src : List (Option Nat)} {g : TG} {tt : TT} {te : TE} (use : Option (Value → Sem Unit)) (PQ : Value → Shared → Prop) (E : Value → Shared → Prop)
    (hcalm : X.calm = true) (f : CompFacts X scope) (hsrc : srcOk X.N N src scope = true)
    (hb : ∀ (s : Shared) (H : Hp) (ex : List Addr), PG (cxC X N scope s H ex) tg g ∧ PIf (cxC X N scope s H ex) ifs tt ∧ PE (cxC X N scope s H ex) elt te)
    {it : Addr} {fp : List Addr} {tn : Nat → Heap → Prop} {J : It} (I : Inv X pins σ H s) (T : Turn X.prog X.w X.K tg J fp it tn) (st : tn 0 s.heap) (hf : ∀ b ∈ fp, FpOk X pins H b) {Q : VK}
    (h : CompEnd J src g tt te σ H Q)
    (hfin : ∀ (acc C : Addr) (s' : Shared) (H' : Hp) (m : Str → Option Value), s'.heap.Ns C m → FpOk X pins H' C → (∀ h', Heap.SameBut C s'.heap h' → Inv X pins σ H' { s' with heap := h' }) → Q (.ref acc) H' → compPost (model X.prog X.w) X.A E use PQ (.ref acc) C (.ok .next) s') :
    wpAny (model X.prog X.w) X.A (newList []) (fun acc s₃ =>
      wpAny (model X.prog X.w) X.A (newFunctionEnv scope X.env.globals (clsOf X.env scope.names []) [] X.env.qual none .none (some X.env)) (fun cenv s₄ =>
        codeAny (model X.prog X.w) X.A (.compStart (.ListComp elt [⟨tg, iter, ifs, 0⟩] scope pos) 0 (.ref it) acc { cenv with scope := relabel scope X.env }) (compPost (model X.prog X.w) X.A E use PQ acc cenv.locals) s₄) E s₃) E s := by
  have ok := I.ok
  have I3 : Inv X pins σ (upd H s.heap.objs.size (.lst [])) { s with heap := s.heap.push { cls := .type "list", data := .seq ([] : List Value).toArray }, toks := s.toks } := I.lnew (ys := []) (its := []) .nil (Nat.zero_le _)
  obtain ⟨W, ⟨m0, w0⟩, turn⟩ := h s.heap.objs.size (I.hok.fresh (Nat.le_refl _))
  refine wpAny_newObj_type (wpAny_newFunctionEnv f.nocell (by intro y hy; simp at hy) (fun h₁ hns₁ hsb₁ => ?_) f.kind)
  dsimp only at hns₁ hsb₁ ⊢
  generalize hs3 : ({ s with heap := s.heap.push { cls := .type "list", data := .seq ([] : List Value).toArray }, toks := s.toks } : Shared) = s3 at I3
  have e3 : s3.heap = s.heap.push { cls := .type "list", data := .seq ([] : List Value).toArray } := by rw [← hs3]
  have hk : ∀ b o, s3.heap.get? b = some o → h₁.get? b = some o := fun b o e => by
    rw [e3] at e
    exact hsb₁.extBut b o (Nat.ne_of_lt (Heap.lt_size e)) (Heap.get?_push_of_some _ e)
  have up3 : ∀ b o, s.heap.get? b = some o → s3.heap.get? b = some o := fun b o e => by rw [e3]; exact Heap.get?_push_of_some _ e
  have nacc : ∀ b ∈ fp, b ≠ s.heap.objs.size := fun b hb z => by
    obtain ⟨o, e, _⟩ := T.obj 0 _ st b hb
    exact absurd (Heap.lt_size e) (by rw [z]; exact Nat.lt_irrefl _)
  have hex : ∀ b ∈ fp, b < s3.heap.objs.size ∧ b ≠ X.env.locals ∧ b ∉ X.fs ∧ (∀ x c, X.env.cells.lookup x = some c → c ≠ b) ∧ ∀ o, X.base.get? b ≠ some o := fun b hb => by
    obtain ⟨o, e, _⟩ := T.obj 0 _ st b hb
    obtain ⟨f0, f1, f2, f3, f4, f5⟩ := hf b hb
    refine ⟨Heap.lt_size (up3 b o e), f1, f2, f4, fun o' z => ?_⟩
    rcases f3 with q | q
    · exact ok.noex b o' z q
    · exact absurd (Nat.lt_of_lt_of_le (Heap.lt_size (ok.bs b o' z).1) q) (Nat.lt_irrefl _)
  have hns₁' : h₁.Ns s3.heap.objs.size (fun x => ([] : List (Str × Value)).reverse.lookup x) := by rw [e3]; exact hns₁
  have IY0 : Inv (cxC X N scope s3 (upd H s.heap.objs.size (.lst [])) fp) [] (srcSt src σ) (upd H s.heap.objs.size (.lst [])) { s3 with heap := h₁, toks := s.toks + ([] : List (Str × Value)).length } :=
    comp_start (tk := s.toks + ([] : List (Str × Value)).length) I3 f hsrc hex hns₁' hk
  generalize hY : cxC X N scope s3 (upd H s.heap.objs.size (.lst [])) fp = Y at IY0
  have hb' : PG Y tg g ∧ PIf Y ifs tt ∧ PE Y elt te := by rw [← hY]; exact hb s3 _ fp
  obtain ⟨hg, ht, he⟩ := hb'
  have Yp : Y.prog = X.prog := by rw [← hY]; rfl
  have Yw : Y.w = X.w := by rw [← hY]; rfl
  have YK : Y.K = X.K := by rw [← hY]; rfl
  have YA : Y.A = X.A := by rw [← hY]; rfl
  have Yc : Y.calm = true := by rw [← hY]; exact hcalm
  have Yx : Y.xe = fun _ _ => False := by rw [← hY]; rfl
  have Ye : Y.env = compEnvC scope (clsOf X.env scope.names []) s3.heap.objs.size X.env := by rw [← hY]; rfl
  have Ys : Y.s₀ = s3 := by rw [← hY]; rfl
  have YH : Y.H₀ = upd H s.heap.objs.size (.lst []) := by rw [← hY]; rfl
  have Yf : Y.fs = frs X.stack := by rw [← hY]; rfl
  have Yex : Y.ex = fp := by rw [← hY]; rfl
  have Ypn : Y.pn = [] := by rw [← hY]; rfl
  have stat : ∀ {H' : Hp}, (∀ b ∈ fp, H' b = none) → ∀ b ∈ fp, FpOk Y [] H' b := fun {H'} hn b hb => by
    obtain ⟨x1, x2, x3, x4, x5⟩ := hex b hb
    refine ⟨hn b hb, ?_, ?_, .inl (by rw [Yex]; exact hb), ?_, fun p hp => ?_⟩
    · rw [Ye]; exact Nat.ne_of_lt x1
    · rw [Yf]
      intro z
      rcases List.mem_cons.mp (I.stkSub b z) with q | q
      · exact x2 q
      · exact x3 q
    · rw [Ye]
      intro x c e
      exact x4 x c (f.cl ok e)
    · rw [Ypn] at hp
      exact absurd hp (by simp)
  have loop : ∀ s4 : Shared, s4 = ({ s3 with heap := h₁, toks := s.toks + ([] : List (Str × Value)).length } : Shared) →
      codeAny (model X.prog X.w) X.A (.compLoop (.ListComp elt [⟨tg, iter, ifs, 0⟩] scope pos) 0 (.ref it) (.ref s.heap.objs.size) (compEnvC scope (clsOf X.env scope.names []) s3.heap.objs.size X.env))
        (compPost (model X.prog X.w) X.A E use PQ (.ref s.heap.objs.size) s3.heap.objs.size) s4 := by
    rintro s4 rfl
    refine compLoop_any (fun n s' => ∃ i σ' H', Inv Y [] σ' H' s' ∧ tn i s'.heap ∧ (∀ b ∈ fp, H' b = none) ∧ W i n σ' H') ?_ m0
      ⟨0, srcSt src σ, _, IY0, T.keep 0 _ _ st fun b hb o e => hk b o (up3 b o e), fun b hb => by rw [upd_ne (nacc b hb)]; exact (hf b hb).1, w0⟩
    rintro n s5 ⟨i, σ5, H5, I5, st5, fr5, w5⟩
    rcases turn i n σ5 H5 w5 with ⟨stop, qn⟩ | ⟨go, Nn, hNn, step⟩
    · have q := T.done Y Yp Yw YK Yc i [] s5 σ5 H5 (fun _ _ => False) I5 (stat fr5) st5 stop
      rw [YA] at q
      refine thn q fun r s6 ⟨hr, I6⟩ => ?_
      subst hr
      obtain ⟨m6, hn6, _⟩ := id I6.loc
      have eL : Y.env.locals = s3.heap.objs.size := by rw [Ye]; rfl
      rw [eL] at hn6
      refine hfin s.heap.objs.size s3.heap.objs.size s6 H5 m6 hn6 (I3.fpOk (Nat.le_refl _) (by have z := I6.free; rw [eL] at z; exact z)) (fun h' sb => ?_) qn
      · have b6 := I6.base
        rw [Ys, YH, Yf, Yex] at b6
        have ne : ∀ b o, s3.heap.get? b = some o → b ≠ s3.heap.objs.size := fun b o e => Nat.ne_of_lt (Heap.lt_size e)
        have u6 : Un (frs X.stack) fp (upd H s.heap.objs.size (.lst [])) H5 s3.heap h' :=
          ⟨fun b o e n hb hx => (sb.2 b (ne b o e)).trans (b6.keep b o e n hb hx), fun b o e n hb hx => by
              obtain ⟨sl, z⟩ := b6.slot b o e n hb hx
              exact ⟨sl, (sb.2 b (ne b o e)).trans z⟩, b6.free, fun b o e hx => by
              obtain ⟨o', z⟩ := b6.there b o e hx
              exact ⟨o', (sb.2 b (ne b o e)).trans z⟩, b6.tups, b6.frzs, b6.tbls⟩
        have fL : H5 s3.heap.objs.size = none := by
          have z := I6.free
          rw [eL] at z
          exact z
        have hok6 : HOk X.prog X.w H5 h' := by
          have z := I6.hok
          rw [Yp, Yw] at z
          intro b ob e
          refine (z b ob e).stay (fun c w' hc q => (sb.2 c ?_).trans q) (fun _ q => q) fun _ _ q => q
          rintro rfl
          rcases hc with rfl | hc
          · rw [fL] at e; cases e
          · rw [fL] at hc; cases hc
        have os6 : s6.os = s3.os := by
          have z := I6.os
          rw [Ys] at z
          exact z
        refine Inv.call' (s' := { s6 with heap := h' }) I3 os6 u6 hok6 I6.bare fun b hb => ?_
        obtain ⟨f0, f1, f2, f3, f4, f5⟩ := hf b hb
        exact ⟨f3, f1, f4, f5⟩
    · have q := T.item Y Yp Yw YK Yc i [] s5 σ5 H5 (fun _ _ => False) I5 (stat fr5) st5 go
      rw [YA] at q
      refine thn q fun r s6 ⟨u, hr, h6⟩ => ?_
      subst hr
      refine thn h6 fun _ s7 ⟨x, H7, I7, r7, y7, st7, fr7⟩ => ?_
      have I7' := I7.pinned (stat fr7) (T.obj _ _ st7)
      have back : ∀ {σ9 : St} {H9 : Hp} {s9 : Shared}, Inv Y ([] ++ pinsAt fp s7.heap) σ9 H9 s9 → tn (i + 1) s9.heap ∧ ∀ b ∈ fp, H9 b = none := fun {σ9 H9 s9} I9 =>
        ⟨T.keep _ _ _ st7 fun b hb o e => (I9.pin (b, o) (List.mem_append_right _ (List.mem_append_right _ (mem_pinsAt hb e)))).1, fun b hb => by
          obtain ⟨o, e, d⟩ := T.obj _ _ st7 b hb
          exact (I9.pin (b, o) (List.mem_append_right _ (List.mem_append_right _ (mem_pinsAt hb e)))).2.1⟩
      have g1 := hg _ s7 σ5 H7 x u _ I7' r7 (step x H7 y7)
      rw [YA, Yx, Yp, Yw, Ye] at g1
      refine thn g1 fun _ s8 ⟨σ8, H8, I8, q8⟩ => ?_
      have g2 := ht _ s8 σ8 H8 _ I8 q8
      rw [YA, Yx, Yp, Yw, Ye] at g2
      refine thn g2 fun b s9 ⟨H9, I9, q9⟩ => ?_
      cases b with
      | false =>
        simp only [Bool.false_eq_true, if_false] at q9 ⊢
        obtain ⟨m', hm, w9⟩ := hNn _ _ q9
        exact ⟨m', hm, i + 1, σ8, H9, I9.unpinned, (back I9).1, (back I9).2, w9⟩
      | true =>
        simp only [if_true] at q9 ⊢
        have g3 := he _ s9 σ8 H9 _ I9 q9
        rw [YA, Yx, Yp, Yw, Ye] at g3
        refine thn g3 fun yv s10 ⟨y, H10, I10, r10, ys, hys, hz, n10⟩ => ?_
        obtain ⟨m', hm, w10⟩ := hNn _ _ n10
        have g4 := mt_append (X := Y) _ s10 σ8 H10 (.ref s.heap.objs.size) [y] (.ref s.heap.objs.size) [yv] (fun _ H11 => H11 = upd H10 s.heap.objs.size (.lst (ys ++ [y]))) I10 rfl (.cons r10 .nil) ⟨_, ys, y, rfl, rfl, hys, hz, rfl⟩
        rw [YA, Yx, Yp, Yw] at g4
        refine thn g4 fun _ s11 ⟨_, H11, I11, _, e11⟩ => ?_
        subst e11
        exact ⟨m', hm, i + 1, σ8, _, I11.unpinned, (back I11).1, (back I11).2, w10⟩
  have q := loop _ rfl
  have eqs : ({ s3 with heap := h₁, toks := s.toks + ([] : List (Str × Value)).length } : Shared) = { s with heap := h₁, toks := s.toks + ([] : List (Str × Value)).length } := by rw [← hs3]
  rw [eqs] at q
  rw [e3] at q
  have stn : tn 0 h₁ := T.keep 0 _ _ st fun b hb o e => hk b o (up3 b o e)
  exact codeAny_compStart_list q (T.self X.A 0 _ _ _ stn q)

theorem pe_comp {elt tg iter : Expr} {ifs : List Expr} {scope : Scope} {pos : Pos} {N : List Str} {src : List (Option Nat)} {wi : TI} {g : TG} {tt : TT} {te : TE}
    (hcalm : X.calm = true) (hsc : compOk X.env.scope scope = true) (hsrc : srcOk X.N N src scope = true) (hi : PI X tg iter wi)
    (hb : ∀ (s : Shared) (H : Hp) (ex : List Addr), PG (cxC X N scope s H ex) tg g ∧ PIf (cxC X N scope s H ex) ifs tt ∧ PE (cxC X N scope s H ex) elt te)
    (hs : ∀ x, foldedSetIterable iter X.env x = pure x := by intro _; rfl) :
    PE X (.ListComp elt [⟨tg, iter, ifs, 0⟩] scope pos) (tComp src wi g tt te) := by
  intro pins s σ H Q I h
  have f := compFacts hsc
  rw [eval_ListComp]
  refine wpAny_comprehension_free (use := none) rfl hs (closure_of (f.cells I.ok)) f.kind f.names (thn (hi pins s σ H _ I h) fun v s1 h1 => thn h1 fun itv s2 h2 => ?_)
  obtain ⟨it, fp, tn, J, H2, rfl, I2, T, st2, f2, q2⟩ := h2
  refine comp_run (N := N) (src := src) none (EP X pins σ Q) X.xe hcalm f hsrc hb I2 T st2 f2 q2 ?_
  intro acc C s' H' m hn _ hI hq
  exact ⟨m, hn, fun h' sb => ⟨.ref acc, H', hI h' sb, rfl, hq⟩⟩
/-- name = [comprehension]: the stores are exchanged -/
theorem ps_setc {i : Nat} {y : Str} {py spos : Pos} {elt tg iter : Expr} {ifs : List Expr} {scope : Scope} {pos : Pos} {N : List Str} {src : List (Option Nat)} {wi : TI} {g : TG} {tt : TT} {te : TE}
    (hN : X.N.Nodup) (hix : X.N[i]? = some y) (hx : Loc X.env.scope y)
    (hcalm : X.calm = true) (hsc : compOk X.env.scope scope = true) (hsrc : srcOk X.N N src scope = true) (hi : PI X tg iter wi)
    (hb : ∀ (s : Shared) (H : Hp) (ex : List Addr), PG (cxC X N scope s H ex) tg g ∧ PIf (cxC X N scope s H ex) ifs tt ∧ PE (cxC X N scope s H ex) elt te)
    (hs : ∀ x, foldedSetIterable iter X.env x = pure x := by intro _; rfl)
    (hsw : swapsWith (.ListComp elt [⟨tg, iter, ifs, 0⟩] scope pos) (some (.Name y py)) spos.line X.env = pure true := by rfl)
    (hf : X.fn y = true ∨ X.env.scope.names.lookup y = some .local := by first | exact .inl rfl | exact .inr rfl | assumption) :
    PS X (.Assign [.Name y py] (.ListComp elt [⟨tg, iter, ifs, 0⟩] scope pos) spos) (tAsg (tComp src wi g tt te) (gName i)) := by
  intro pins s σ H D I h
  have f := compFacts hsc
  rw [exec_Assign_Name_used _ _ _ _ hsw]
  refine wpAny_bind (wpAny_standAt (wpAny_bind ?_))
  show wpAny _ X.A (do let _ ← comprehension (.ListComp elt [⟨tg, iter, ifs, 0⟩] scope pos) scope X.env _ (newList []) false (eval iter X.env) (some (assign (.Name y py) X.env))) _ _ s
  refine wpAny_bind (wpAny_mono (wpAny_comprehension_free (use := some (assign (.Name y py) X.env)) (Q := fun _ s' => SP X pins D .next s') rfl hs (closure_of (f.cells I.ok)) f.kind f.names
    (thn (hi pins s σ H _ I h) fun v s1 h1 => thn h1 fun itv s2 h2 => ?_)) (fun _ s' hq => wpAny_pure (wpAny_pure hq)) fun _ _ e => e)
  obtain ⟨it, fp, tn, J, H2, rfl, I2, T, st2, f2, q2⟩ := h2
  refine comp_run (N := N) (src := src) (some (assign (.Name y py) X.env)) (fun _ s' => SP X pins D .next s') X.xe hcalm f hsrc hb I2 T st2 f2 (Q := fun x H1 => gName i x σ H1 D.nx) q2 ?_
  intro acc C s' H' m hn fpC hI hq
  obtain ⟨c0, c1, c2, c3, c4, c5⟩ := fpC
  have I' : Inv X pins σ H' s' := hI s'.heap (Heap.SameBut.refl ..)
  show wpAny _ X.A (assign (.Name y py) X.env (.ref acc)) _ _ _
  refine wpAny_assign_Name (store_ok2 (v := .ref acc) I' hN hix hx rfl (fun s2 J2 ⟨a, sb, ha⟩ => ?_) hf)
  have hCa : C ≠ a := by
    rcases ha with rfl | ha
    · exact c1
    · exact fun z => c4 y a ha z.symm
  refine ⟨m, hn.sameBut sb hCa, fun h' sb' => ?_⟩
  exact ⟨_, H', J2.turned (t' := s2.toks) (fun b o hb e => (sb'.2 b hb).trans e) c0 c1 c3 c4 c5, hq⟩
end
end L2

namespace L2
open PySem PySem.Spec PyProof.Rows

/-! ### an iterator over a list or a tuple -/
def SqI (t : Bool) (h : Heap) (it l : Addr) (i : Nat) : Prop := if t = true then h.IsTupleIter it l i else h.IsListIter it l i
def SqO (t : Bool) (h : Heap) (l : Addr) (xs : Array Value) : Prop := if t = true then h.IsTuple l xs else h.IsList l xs
def SqV (t : Bool) (K : PySem.W.Frag) (H : Hp) (a : Addr) (xs : List V) : Prop := if t = true then SqT K H a xs else SqL K H a xs
theorem SqI.at {t : Bool} {h h' : Heap} {it l : Addr} {i : Nat} (x : SqI t h it l i) (k : ∀ o, h.get? it = some o → h'.get? it = some o) : SqI t h' it l i := by
  cases t
  · exact Heap.IsListIter.at x k
  · obtain ⟨o, ho, r⟩ := (show h.IsTupleIter it l i from x)
    exact (show h'.IsTupleIter it l i from ⟨o, k o ho, r⟩)
theorem SqI.obj {t : Bool} {h : Heap} {it l : Addr} {i : Nat} (x : SqI t h it l i) : ∃ o, h.get? it = some o ∧ ∀ v, o.data ≠ .cell v := by
  cases t
  · obtain ⟨o, ho, _, d⟩ := (show h.IsListIter it l i from x)
    exact ⟨o, ho, fun v z => by rw [d] at z; cases z⟩
  · obtain ⟨o, ho, _, d⟩ := (show h.IsTupleIter it l i from x)
    exact ⟨o, ho, fun v z => by rw [d] at z; cases z⟩
theorem SqO.at {t : Bool} {h h' : Heap} {l : Addr} {xs : Array Value} (x : SqO t h l xs) (k : ∀ o, h.get? l = some o → h'.get? l = some o) : SqO t h' l xs := by
  cases t
  · obtain ⟨o, ho, r⟩ := (show h.IsList l xs from x)
    exact (show h'.IsList l xs from ⟨o, k o ho, r⟩)
  · obtain ⟨o, ho, r⟩ := (show h.IsTuple l xs from x)
    exact (show h'.IsTuple l xs from ⟨o, k o ho, r⟩)
theorem SqO.obj {t : Bool} {h : Heap} {l : Addr} {xs : Array Value} (x : SqO t h l xs) : ∃ o, h.get? l = some o := by
  cases t
  · obtain ⟨o, ho, r⟩ := (show h.IsList l xs from x)
    exact ⟨o, ho⟩
  · obtain ⟨o, ho, r⟩ := (show h.IsTuple l xs from x)
    exact ⟨o, ho⟩
theorem Inv.seqV {X : Cx} {pins : List (Addr × Obj)} {σ : St} {H : Hp} {s : Shared} {t : Bool} {a : Addr} {xs : List V} (I : Inv X pins σ H s) (h : SqV t X.K H a xs) : ∃ its : List Value, Vals xs its ∧ SqO t s.heap a its.toArray ∧ xs.length ≤ sizeLine := by
  cases t
  · obtain ⟨its, r, p, z⟩ := I.list (show SqL X.K H a xs from h)
    exact ⟨its, r, p.isList, z⟩
  · obtain ⟨its, r, p, z⟩ := I.tuple (show SqT X.K H a xs from h)
    exact ⟨its, r, p, z⟩
theorem Inv.seqV_inj {X : Cx} {pins : List (Addr × Obj)} {σ : St} {H : Hp} {s : Shared} {t : Bool} {a : Addr} {xs ys : List V} (I : Inv X pins σ H s) (h : SqV t X.K H a xs) (h' : SqV t X.K H a ys) : xs = ys := by
  cases t
  · exact I.list_inj h h'
  · exact I.tuple_inj h h'
section
variable {prog : Program} {w : World} {A : Around} {E : Value → Shared → Prop} {s : Shared}
theorem nextOf_tuple_item {it l : Addr} {i : Nat} {items : Array Value} {x : Value} {Q : Value → Shared → Prop} (hit : s.heap.IsTupleIter it l i)
    (hl : s.heap.IsTuple l items) (hx : items[i]? = some x)
    (hQ : ∀ h', h'.IsTupleIter it l (i + 1) → Heap.SameBut it s.heap h' → Q x { s with heap := h' }) :
    wpAny (model prog w) A (Builtin.SmallTypes.nextOf (.ref it)) Q E s := by
  obtain ⟨o, ho, hc, hd⟩ := id hit
  obtain ⟨ol, hol, _, nl, hdl⟩ := hl
  unfold Builtin.SmallTypes.nextOf
  refine wpAny_bind (wpAny_callSpecial?_slot (name := Str.ofString "__next__") hit.typeIs F.slot_tuple_iterator_next
    (wpAny_call_entry F.slot_tuple_iterator_next hit.typeIs F.entry_tuple_iterator_next ?_ (F.args_tuple_iterator_next_1 _)))
  show wpAny _ _ (field (.ref it) 0 >>= _) _ _ s
  refine wpAny_bind (wpAny_field ho hd (x := .ref l) rfl ?_)
  show wpAny _ _ (if (Value.ref l == Value.none) = true then _ else _) _ _ s
  rw [if_neg (show ¬ ((Value.ref l == Value.none) = true) from Bool.false_ne_true)]
  show wpAny _ _ (field (.ref it) 1 >>= _) _ _ s
  refine wpAny_bind (wpAny_field ho hd (x := .int i 0) rfl ?_)
  show wpAny _ _ (seqItems? (.ref l) >>= _) _ _ s
  refine wpAny_bind (wpAny_seqItems hol hdl ?_)
  simp only [Int.toNat_natCast, hx]
  refine wpAny_bind (wpAny_setField ho hd (by simp) (wpAny_pure ⟨x, rfl, wpAny_pure (hQ _ ?_ (Heap.SameBut.update ..))⟩))
  exact ⟨_, Heap.get?_update_self _ ho (Obj.isFreed_of_fields (Obj.data_mapFields hd _)), (Obj.cls_mapFields ..).trans hc, by
    rw [Obj.data_mapFields hd]; simp [rawInt]⟩
theorem nextOf_tuple_end {it l : Addr} {i : Nat} {items : Array Value} {Q : Value → Shared → Prop} (hh : A.handled = none)
    (hit : s.heap.IsTupleIter it l i) (hl : s.heap.IsTuple l items) (hx : items[i]? = none)
    (hE : ∀ h' e, Heap.ExtBut it s.heap h' → (∃ o, h'.get? e = some o ∧ o.cls = .type "StopIteration") → E (.ref e) { s with heap := h' }) :
    wpAny (model prog w) A (Builtin.SmallTypes.nextOf (.ref it)) Q E s := by
  obtain ⟨o, ho, hc, hd⟩ := id hit
  obtain ⟨ol, hol, _, nl, hdl⟩ := hl
  unfold Builtin.SmallTypes.nextOf
  refine wpAny_bind (wpAny_callSpecial?_slot (name := Str.ofString "__next__") hit.typeIs F.slot_tuple_iterator_next
    (wpAny_call_entry F.slot_tuple_iterator_next hit.typeIs F.entry_tuple_iterator_next ?_ (F.args_tuple_iterator_next_1 _)))
  show wpAny _ _ (field (.ref it) 0 >>= _) _ _ s
  refine wpAny_bind (wpAny_field ho hd (x := .ref l) rfl ?_)
  show wpAny _ _ (if (Value.ref l == Value.none) = true then _ else _) _ _ s
  rw [if_neg (show ¬ ((Value.ref l == Value.none) = true) from Bool.false_ne_true)]
  show wpAny _ _ (field (.ref it) 1 >>= _) _ _ s
  refine wpAny_bind (wpAny_field ho hd (x := .int i 0) rfl ?_)
  show wpAny _ _ (seqItems? (.ref l) >>= _) _ _ s
  refine wpAny_bind (wpAny_seqItems hol hdl ?_)
  simp only [Int.toNat_natCast, hx]
  refine wpAny_bind (wpAny_rule (wpAny_bind (wpAny_setField ho hd (by simp) ?_)))
  show wpAny _ _ (newExc (.type "StopIteration") [] >>= _) _ _ _
  refine wpAny_bind ?_
  simp only [newExc, newTuple]
  refine wpAny_bind (wpAny_newObj_type ?_ (by size_fits))
  refine wpAny_bind (m := firstArgMember _ _) (wpAny_of_eq (a := Value.none) (by first | rfl | (simp only [firstArgMember]; rfl)) ?_)
  refine wpAny_newObj_type ?_ (by size_fits)
  simp only [raiseNew]
  refine wpAny_bind (wpAny_handled ?_)
  first | rw [show A.in1.handled = none from hh] | rw [hh]
  refine wpAny_bind (wpAny_pure (wpAny_throw ?_))
  exact hE _ _ (((Heap.SameBut.update ..).extBut.push _).push _) ⟨_, Heap.get?_push_size _ rfl, rfl⟩
theorem nextOf_item {t : Bool} {it l : Addr} {i : Nat} {items : Array Value} {x : Value} {Q : Value → Shared → Prop} (hit : SqI t s.heap it l i)
    (hl : SqO t s.heap l items) (hx : items[i]? = some x)
    (hQ : ∀ h', SqI t h' it l (i + 1) → Heap.SameBut it s.heap h' → Q x { s with heap := h' }) :
    wpAny (model prog w) A (Builtin.SmallTypes.nextOf (.ref it)) Q E s := by
  cases t
  · exact wpAny_nextOf_list_item hit hl hx hQ
  · exact nextOf_tuple_item hit hl hx hQ
theorem nextOf_end {t : Bool} {it l : Addr} {i : Nat} {items : Array Value} {Q : Value → Shared → Prop} (hh : A.handled = none)
    (hit : SqI t s.heap it l i) (hl : SqO t s.heap l items) (hx : items[i]? = none)
    (hE : ∀ h' e, Heap.ExtBut it s.heap h' → (∃ o, h'.get? e = some o ∧ o.cls = .type "StopIteration") → E (.ref e) { s with heap := h' }) :
    wpAny (model prog w) A (Builtin.SmallTypes.nextOf (.ref it)) Q E s := by
  cases t
  · exact wpAny_nextOf_list_end hh hit hl hx hE
  · exact nextOf_tuple_end hh hit hl hx hE
theorem pyIter_sq {t : Bool} {l : Addr} {items : Array Value} {Q : Value → Shared → Prop} (hl : SqO t s.heap l items)
    (hQ : ∀ o, SqI t (s.heap.push o) s.heap.objs.size l 0 → Q (.ref s.heap.objs.size) { s with heap := s.heap.push o }) : wpAny (model prog w) A (pyIter (.ref l)) Q E s := by
  cases t
  · exact wpAny_pyIter_list hl (hQ _ (show Heap.IsListIter _ _ _ _ from ⟨_, Heap.get?_push_size _ rfl, rfl, rfl⟩))
  · exact wpAny_pyIter_tuple hl (hQ _ (show Heap.IsTupleIter _ _ _ _ from ⟨_, Heap.get?_push_size _ rfl, rfl, rfl⟩))

theorem zipN_item {t1 t2 : Bool} {z TI TO i1 i2 l1 l2 : Addr} {k1 k2 : Nat} {xs ys : Array Value} {x y a b : Value} {Q : Value → Shared → Prop} (D : ZipApart z TI TO i1 i2 l1 l2)
    (hz : IsZip s.heap z TI TO .none) (hTI : IsPair s.heap TI (.ref i1) (.ref i2)) (hTO : IsPair s.heap TO a b)
    (h1 : SqI t1 s.heap i1 l1 k1) (h2 : SqI t2 s.heap i2 l2 k2) (hl1 : SqO t1 s.heap l1 xs) (hl2 : SqO t2 s.heap l2 ys) (hx : xs[k1]? = some x) (hy : ys[k2]? = some y)
    (hQ : ∀ h', IsZip h' z TI TO (rawInt s.heap.objs.size) → IsPair h' TO x y → SqI t1 h' i1 l1 (k1 + 1) → SqI t2 h' i2 l2 (k2 + 1) → IsPair h' s.heap.objs.size x y → h'.objs.size = s.heap.objs.size + 1 →
      (∀ c o, c ≠ z → c ≠ TO → c ≠ i1 → c ≠ i2 → s.heap.get? c = some o → h'.get? c = some o) → Q (.ref s.heap.objs.size) { s with heap := h' }) :
    wpAny (model prog w) A (Builtin.«zip.__next__» ⟨[.ref z], []⟩) (fun fin s' => ∃ v, fin = .done (.ret v) ∧ Q v s') E s := by
  show wpAny _ _ (field (.ref z) 2 >>= _) _ _ _
  refine wpAny_bind (wpAny_field hz rfl (x := .bool false) rfl ?_)
  show wpAny _ _ (field (.ref z) 3 >>= _) _ _ _
  refine wpAny_bind (wpAny_field hz rfl (x := .ref TI) rfl ?_)
  refine wpAny_bind (wpAny_seqItems hTI rfl ?_)
  show wpAny _ _ (Builtin.SmallTypes.ownedTupleIsFree (.ref z) >>= _) _ _ _
  refine wpAny_bind ?_
  unfold Builtin.SmallTypes.ownedTupleIsFree
  refine wpAny_bind (wpAny_field hz rfl (x := .none) rfl (wpAny_pure ?_))
  simp only [if_true]
  refine wpAny_bind (wpAny_rule ?_)
  refine wpAny_bind (wpAny_field hz rfl (x := .ref TO) rfl ?_)
  refine wpAny_bind (wpAny_setField_rec hz (by simp) fun h₁ hz₁ hs₁ => ?_)
  replace hz₁ : IsZip h₁ z TI TO .ellipsis := hz₁
  refine wpAny_bind ?_
  simp only [List.zipIdx_cons, List.zipIdx_nil, List.forIn_cons, List.forIn_nil]
  refine wpAny_bind (wpAny_bind (wpAny_onRaise ?_))
  show wpAny _ _ (Builtin.SmallTypes.nextOf (.ref i1) >>= _) _ _ _
  refine wpAny_bind (nextOf_item (h1.at fun o e => hs₁.extBut _ _ D.i1z e) (hl1.at fun o e => hs₁.extBut _ _ D.l1z e) hx fun h₂ h1₂ hs₂ => wpAny_pure ?_)
  have hTO₂ : IsPair h₂ TO a b := hs₂.extBut _ _ D.TOi1 (hs₁.extBut _ _ D.TOz hTO)
  refine wpAny_bind (wpAny_seqItems hTO₂ rfl ?_)
  refine wpAny_bind (wpAny_updateSeq_pair hTO₂ fun h₃ hTO₃ hs₃ => ?_)
  replace hTO₃ : IsPair h₃ TO x b := hTO₃
  refine wpAny_bind (wpAny_letGo (wpAny_pure ?_))
  refine wpAny_bind (wpAny_bind (wpAny_onRaise ?_))
  show wpAny _ _ (Builtin.SmallTypes.nextOf (.ref i2) >>= _) _ _ _
  refine wpAny_bind (nextOf_item (h2.at fun o e => hs₃.extBut _ _ D.TOi2.symm (hs₂.extBut _ _ D.i12.symm (hs₁.extBut _ _ D.i2z e)))
    (hl2.at fun o e => hs₃.extBut _ _ D.l2TO (hs₂.extBut _ _ D.l2i1 (hs₁.extBut _ _ D.l2z e))) hy fun h₄ h2₄ hs₄ => wpAny_pure ?_)
  have hTO₄ : IsPair h₄ TO x b := hs₄.extBut _ _ D.TOi2 hTO₃
  refine wpAny_bind (wpAny_seqItems hTO₄ rfl ?_)
  refine wpAny_bind (wpAny_updateSeq_pair hTO₄ fun h₅ hTO₅ hs₅ => ?_)
  replace hTO₅ : IsPair h₅ TO x y := hTO₅
  refine wpAny_bind (wpAny_letGo (wpAny_pure (wpAny_pure ?_)))
  refine wpAny_bind (wpAny_seqItems hTO₅ rfl ?_)
  refine wpAny_bind (wpAny_newTuple ?_)
  have hsz : h₅.objs.size = s.heap.objs.size := by rw [hs₅.1, hs₄.1, hs₃.1, hs₂.1, hs₁.1]
  have hz₅ : IsZip h₅ z TI TO .ellipsis := hs₅.extBut _ _ D.TOz.symm (hs₄.extBut _ _ D.i2z.symm (hs₃.extBut _ _ D.TOz.symm (hs₂.extBut _ _ D.i1z.symm hz₁)))
  have hk₅ : ∀ c o, c ≠ z → c ≠ TO → c ≠ i1 → c ≠ i2 → s.heap.get? c = some o → h₅.get? c = some o := fun c o c1 c2 c3 c4 e =>
    hs₅.extBut _ _ c2 (hs₄.extBut _ _ c4 (hs₃.extBut _ _ c2 (hs₂.extBut _ _ c3 (hs₁.extBut _ _ c1 e))))
  have h1₅ : SqI t1 h₅ i1 l1 (k1 + 1) := h1₂.at fun o e => hs₅.extBut _ _ D.TOi1.symm (hs₄.extBut _ _ D.i12 (hs₃.extBut _ _ D.TOi1.symm e))
  have h2₅ : SqI t2 h₅ i2 l2 (k2 + 1) := h2₄.at fun o e => hs₅.extBut _ _ D.TOi2.symm e
  have hzlt : z < h₅.objs.size := Heap.lt_size hz₅
  have hTOlt : TO < h₅.objs.size := Heap.lt_size hTO₅
  show wpAny _ _ (Builtin.SmallTypes.ownedTupleHandOut (.ref z) (.ref h₅.objs.size) >>= _) _ _ _
  refine wpAny_bind ?_
  unfold Builtin.SmallTypes.ownedTupleHandOut
  have hz₆ : IsZip (h₅.push { cls := .type "tuple", data := .seq #[x, y] }) z TI TO .ellipsis := Heap.get?_push_of_some _ hz₅
  refine wpAny_bind (wpAny_setField_rec hz₆ (by simp) fun h₇ hz₇ hs₇ => ?_)
  replace hz₇ : IsZip h₇ z TI TO (rawInt h₅.objs.size) := hz₇
  refine wpAny_setField_rec hz₇ (by simp) fun h₈ hz₈ hs₈ => ?_
  replace hz₈ : IsZip h₈ z TI TO (rawInt h₅.objs.size) := hz₈
  have up : ∀ c o, c ≠ z → h₅.get? c = some o → h₈.get? c = some o := fun c o c1 e => hs₈.extBut _ _ c1 (hs₇.extBut _ _ c1 (Heap.get?_push_of_some _ e))
  have hT₈ : IsPair h₈ h₅.objs.size x y := hs₈.extBut _ _ (Nat.ne_of_gt hzlt) (hs₇.extBut _ _ (Nat.ne_of_gt hzlt) (Heap.get?_push_size _ rfl))
  have hz8 : h₈.objs.size = h₅.objs.size + 1 := by rw [hs₈.1, hs₇.1, Heap.size_push]
  rw [hsz] at hz₈ hT₈ hz8
  refine wpAny_pure ⟨_, rfl, ?_⟩
  show Q (.ref h₅.objs.size) _
  rw [hsz]
  exact hQ h₈ hz₈ (up _ _ D.TOz hTO₅) (h1₅.at fun o e => up _ o D.i1z e) (h2₅.at fun o e => up _ o D.i2z e) hT₈ hz8 fun c o c1 c2 c3 c4 e => up c o c1 (hk₅ c o c1 c2 c3 c4 e)

theorem zipN_end {t1 t2 : Bool} {z TI TO i1 i2 l1 l2 : Addr} {k1 k2 : Nat} {xs ys : Array Value} {a b : Value} {Q : PySem.Fin → Shared → Prop} (hh : A.handled = none) (D : ZipApart z TI TO i1 i2 l1 l2)
    (hz : IsZip s.heap z TI TO .none) (hTI : IsPair s.heap TI (.ref i1) (.ref i2)) (hTO : IsPair s.heap TO a b)
    (h1 : SqI t1 s.heap i1 l1 k1) (h2 : SqI t2 s.heap i2 l2 k2) (hl1 : SqO t1 s.heap l1 xs) (hl2 : SqO t2 s.heap l2 ys) (hend : xs[k1]? = none ∨ ys[k2]? = none)
    (hE : ∀ h' e, (∀ c o, c ≠ z → c ≠ TO → c ≠ i1 → c ≠ i2 → s.heap.get? c = some o → h'.get? c = some o) → (∃ o, h'.get? e = some o ∧ o.cls = .type "StopIteration") → E (.ref e) { s with heap := h' }) :
    wpAny (model prog w) A (Builtin.«zip.__next__» ⟨[.ref z], []⟩) Q E s := by
  show wpAny _ _ (field (.ref z) 2 >>= _) _ _ _
  refine wpAny_bind (wpAny_field hz rfl (x := .bool false) rfl ?_)
  show wpAny _ _ (field (.ref z) 3 >>= _) _ _ _
  refine wpAny_bind (wpAny_field hz rfl (x := .ref TI) rfl ?_)
  refine wpAny_bind (wpAny_seqItems hTI rfl ?_)
  show wpAny _ _ (Builtin.SmallTypes.ownedTupleIsFree (.ref z) >>= _) _ _ _
  refine wpAny_bind ?_
  unfold Builtin.SmallTypes.ownedTupleIsFree
  refine wpAny_bind (wpAny_field hz rfl (x := .none) rfl (wpAny_pure ?_))
  simp only [if_true]
  refine wpAny_bind (wpAny_rule ?_)
  refine wpAny_bind (wpAny_field hz rfl (x := .ref TO) rfl ?_)
  refine wpAny_bind (wpAny_setField_rec hz (by simp) fun h₁ hz₁ hs₁ => ?_)
  replace hz₁ : IsZip h₁ z TI TO .ellipsis := hz₁
  refine wpAny_bind ?_
  simp only [List.zipIdx_cons, List.zipIdx_nil, List.forIn_cons, List.forIn_nil]
  refine wpAny_bind (wpAny_bind (wpAny_onRaise ?_))
  show wpAny _ _ (Builtin.SmallTypes.nextOf (.ref i1) >>= _) _ _ _
  cases hx : xs[k1]? with
  | none =>
    refine wpAny_bind (nextOf_end hh (h1.at fun o e => hs₁.extBut _ _ D.i1z e) (hl1.at fun o e => hs₁.extBut _ _ D.l1z e) hx fun h₂ e hs₂ he => ?_)
    obtain ⟨oe, hoe, hce⟩ := he
    have hz₂ : IsZip h₂ z TI TO .ellipsis := hs₂ _ _ D.i1z.symm hz₁
    have hez : e ≠ z := fun x => by subst x; rw [hz₂] at hoe; cases hoe; simp at hce
    refine wpAny_setField_rec hz₂ (by simp) fun h₃ _ hs₃ => hE h₃ e (fun c o c1 _ c3 _ x => hs₃.extBut _ _ c1 (hs₂ _ _ c3 (hs₁.extBut _ _ c1 x))) ⟨oe, hs₃.extBut _ _ hez hoe, hce⟩
  | some x =>
    have hy : ys[k2]? = none := by rcases hend with h | h; rw [hx] at h; cases h; exact h
    refine wpAny_bind (nextOf_item (h1.at fun o e => hs₁.extBut _ _ D.i1z e) (hl1.at fun o e => hs₁.extBut _ _ D.l1z e) hx fun h₂ h1₂ hs₂ => wpAny_pure ?_)
    have hTO₂ : IsPair h₂ TO a b := hs₂.extBut _ _ D.TOi1 (hs₁.extBut _ _ D.TOz hTO)
    refine wpAny_bind (wpAny_seqItems hTO₂ rfl ?_)
    refine wpAny_bind (wpAny_updateSeq_pair hTO₂ fun h₃ hTO₃ hs₃ => ?_)
    refine wpAny_bind (wpAny_letGo (wpAny_pure ?_))
    refine wpAny_bind (wpAny_bind (wpAny_onRaise ?_))
    show wpAny _ _ (Builtin.SmallTypes.nextOf (.ref i2) >>= _) _ _ _
    refine wpAny_bind (nextOf_end hh (h2.at fun o e => hs₃.extBut _ _ D.TOi2.symm (hs₂.extBut _ _ D.i12.symm (hs₁.extBut _ _ D.i2z e)))
      (hl2.at fun o e => hs₃.extBut _ _ D.l2TO (hs₂.extBut _ _ D.l2i1 (hs₁.extBut _ _ D.l2z e))) hy fun h₄ e hs₄ he => ?_)
    obtain ⟨oe, hoe, hce⟩ := he
    have hz₄ : IsZip h₄ z TI TO .ellipsis := hs₄ _ _ D.i2z.symm (hs₃.extBut _ _ D.TOz.symm (hs₂.extBut _ _ D.i1z.symm hz₁))
    have hez : e ≠ z := fun x => by subst x; rw [hz₄] at hoe; cases hoe; simp at hce
    refine wpAny_setField_rec hz₄ (by simp) fun h₅ _ hs₅ => hE h₅ e (fun c o c1 c2 c3 c4 x => hs₅.extBut _ _ c1 (hs₄ _ _ c4 (hs₃.extBut _ _ c2 (hs₂.extBut _ _ c3 (hs₁.extBut _ _ c1 x))))) ⟨oe, hs₅.extBut _ _ hez hoe, hce⟩

theorem pyNext_zipN_item {t1 t2 : Bool} {z TI TO i1 i2 l1 l2 : Addr} {k1 k2 : Nat} {xs ys : Array Value} {x y a b : Value} {Q : Option Value → Shared → Prop} (D : ZipApart z TI TO i1 i2 l1 l2)
    (hz : IsZip s.heap z TI TO .none) (hTI : IsPair s.heap TI (.ref i1) (.ref i2)) (hTO : IsPair s.heap TO a b)
    (h1 : SqI t1 s.heap i1 l1 k1) (h2 : SqI t2 s.heap i2 l2 k2) (hl1 : SqO t1 s.heap l1 xs) (hl2 : SqO t2 s.heap l2 ys) (hx : xs[k1]? = some x) (hy : ys[k2]? = some y)
    (hQ : ∀ h', IsZip h' z TI TO (rawInt s.heap.objs.size) → IsPair h' TO x y → SqI t1 h' i1 l1 (k1 + 1) → SqI t2 h' i2 l2 (k2 + 1) → IsPair h' s.heap.objs.size x y → h'.objs.size = s.heap.objs.size + 1 →
      (∀ c o, c ≠ z → c ≠ TO → c ≠ i1 → c ≠ i2 → s.heap.get? c = some o → h'.get? c = some o) → Q (some (.ref s.heap.objs.size)) { s with heap := h' }) :
    wpAny (model prog w) A (pyNext (.ref z)) Q E s := by
  have hT : s.TypeIs (.ref z) "zip" := ⟨_, hz, rfl⟩
  unfold pyNext
  exact wpAny_bind (wpAny_attempt (wpAny_callSpecial?_slot (name := Str.ofString "__next__") hT F.slot_zip_next
    (wpAny_call_entry F.slot_zip_next hT F.entry_zip_next
      (zipN_item D hz hTI hTO h1 h2 hl1 hl2 hx hy fun h' a1 a2 a3 a4 a5 a6 a7 => wpAny_pure (hQ h' a1 a2 a3 a4 a5 a6 a7)) (F.args_zip_next_1 _))))
theorem pyNext_zipN_end {t1 t2 : Bool} {z TI TO i1 i2 l1 l2 : Addr} {k1 k2 : Nat} {xs ys : Array Value} {a b : Value} {Q : Option Value → Shared → Prop} (hh : A.handled = none) (D : ZipApart z TI TO i1 i2 l1 l2)
    (hz : IsZip s.heap z TI TO .none) (hTI : IsPair s.heap TI (.ref i1) (.ref i2)) (hTO : IsPair s.heap TO a b)
    (h1 : SqI t1 s.heap i1 l1 k1) (h2 : SqI t2 s.heap i2 l2 k2) (hl1 : SqO t1 s.heap l1 xs) (hl2 : SqO t2 s.heap l2 ys) (hend : xs[k1]? = none ∨ ys[k2]? = none)
    (hQ : ∀ h', (∀ c o, c ≠ z → c ≠ TO → c ≠ i1 → c ≠ i2 → s.heap.get? c = some o → h'.get? c = some o) → Q none { s with heap := h' }) : wpAny (model prog w) A (pyNext (.ref z)) Q E s := by
  have hT : s.TypeIs (.ref z) "zip" := ⟨_, hz, rfl⟩
  unfold pyNext
  refine wpAny_bind (wpAny_attempt (wpAny_callSpecial?_slot (name := Str.ofString "__next__") hT F.slot_zip_next
    (wpAny_call_entry F.slot_zip_next hT F.entry_zip_next (zipN_end hh D hz hTI hTO h1 h2 hl1 hl2 hend fun h' e hk he => ?_) (F.args_zip_next_1 _))))
  obtain ⟨o, ho, hc⟩ := he
  refine wpAny_bind (wpAny_isInstance (T := "StopIteration") (b := true) ⟨o, ho, hc⟩ isSubtype_stop ?_)
  exact wpAny_pure (hQ _ hk)
end
end L2

namespace L2
open PySem PySem.Spec PyProof.Rows
def itObj (t : Bool) (l : Addr) : Obj := if t = true then { cls := .type "tuple_iterator", data := .fields #[.ref l, .int 0 0] } else { cls := .type "list_iterator", data := .fields #[.ref l, .int 0 0] }
theorem itObj_is {t : Bool} {h : Heap} {it l : Addr} (e : h.get? it = some (itObj t l)) : SqI t h it l 0 := by
  cases t
  · exact (show h.IsListIter it l 0 from ⟨_, e, rfl, rfl⟩)
  · exact (show h.IsTupleIter it l 0 from ⟨_, e, rfl, rfl⟩)
abbrev zpH1 (t1 : Bool) (h : Heap) (l1 : Addr) : Heap := h.push (itObj t1 l1)
abbrev zpH2 (t1 t2 : Bool) (h : Heap) (l1 l2 : Addr) : Heap := (zpH1 t1 h l1).push (itObj t2 l2)
abbrev zpH3 (t1 t2 : Bool) (h : Heap) (l1 l2 : Addr) : Heap := (zpH2 t1 t2 h l1 l2).push { cls := .type "tuple", data := .seq #[.ref h.objs.size, .ref (zpH1 t1 h l1).objs.size] }
abbrev zpH4 (t1 t2 : Bool) (h : Heap) (l1 l2 : Addr) : Heap := (zpH3 t1 t2 h l1 l2).push { cls := .type "tuple", data := .seq #[.none, .none] }
abbrev zpH5 (t1 t2 : Bool) (h : Heap) (l1 l2 : Addr) : Heap := (zpH4 t1 t2 h l1 l2).push { cls := .type "zip", data := .fields #[.none, .bool false, .bool false, .ref (zpH2 t1 t2 h l1 l2).objs.size, .ref (zpH3 t1 t2 h l1 l2).objs.size] }
set_option maxHeartbeats 8000000 in
theorem meets_zipN (t1 t2 : Bool) (l1 l2 : Addr) (xs ys : Array Value) :
    Meets (Builtin.«zip.__new__» ⟨[.type "zip", .ref l1, .ref l2], []⟩) (fun _ R s => SqO t1 s.heap l1 xs ∧ SqO t2 s.heap l2 ys ∧
      R (.ok (.ret (.ref (zpH4 t1 t2 s.heap l1 l2).objs.size))) { s with heap := zpH5 t1 t2 s.heap l1 l2 }) :=
  .of_wp fun prog w A R s h => by
    obtain ⟨hp, g, d, tk, os⟩ := s; obtain ⟨hl1, hl2, h⟩ := h
    have hsub := sub_zip
    cases t1 <;> cases t2
    · have hL1 : Heap.IsList (Shared.heap ⟨hp, g, d, tk, os⟩) l1 xs := hl1
      have hL2 : Heap.IsList (Shared.heap ⟨hp.push { cls := .type "list_iterator", data := .fields #[.ref l1, .int 0 0] }, g, d, tk, os⟩) l2 ys := Heap.IsList.push hl2 _
      wp_walk using wpAny_pyIter_list hL1, wpAny_pyIter_list hL2
      exact ⟨_, rfl, h⟩
    · have hL1 : Heap.IsList (Shared.heap ⟨hp, g, d, tk, os⟩) l1 xs := hl1
      have hL2 : Heap.IsTuple (Shared.heap ⟨hp.push { cls := .type "list_iterator", data := .fields #[.ref l1, .int 0 0] }, g, d, tk, os⟩) l2 ys := Heap.IsTuple.push hl2 _
      wp_walk using wpAny_pyIter_list hL1, wpAny_pyIter_tuple hL2
      exact ⟨_, rfl, h⟩
    · have hL1 : Heap.IsTuple (Shared.heap ⟨hp, g, d, tk, os⟩) l1 xs := hl1
      have hL2 : Heap.IsList (Shared.heap ⟨hp.push { cls := .type "tuple_iterator", data := .fields #[.ref l1, .int 0 0] }, g, d, tk, os⟩) l2 ys := Heap.IsList.push hl2 _
      wp_walk using wpAny_pyIter_tuple hL1, wpAny_pyIter_list hL2
      exact ⟨_, rfl, h⟩
    · have hL1 : Heap.IsTuple (Shared.heap ⟨hp, g, d, tk, os⟩) l1 xs := hl1
      have hL2 : Heap.IsTuple (Shared.heap ⟨hp.push { cls := .type "tuple_iterator", data := .fields #[.ref l1, .int 0 0] }, g, d, tk, os⟩) l2 ys := Heap.IsTuple.push hl2 _
      wp_walk using wpAny_pyIter_tuple hL1, wpAny_pyIter_tuple hL2
      exact ⟨_, rfl, h⟩
section
variable {prog : Program} {w : World} {A : Around} {E : Value → Shared → Prop} {s : Shared}
theorem call_zipN {t1 t2 : Bool} {l1 l2 : Addr} {xs ys : Array Value} {Q : Value → Shared → Prop} (hl1 : SqO t1 s.heap l1 xs) (hl2 : SqO t2 s.heap l2 ys)
    (h : ∀ h', IsZip h' (s.heap.objs.size + 4) (s.heap.objs.size + 2) (s.heap.objs.size + 3) .none → IsPair h' (s.heap.objs.size + 2) (.ref s.heap.objs.size) (.ref (s.heap.objs.size + 1)) →
      IsPair h' (s.heap.objs.size + 3) .none .none → SqI t1 h' s.heap.objs.size l1 0 → SqI t2 h' (s.heap.objs.size + 1) l2 0 → h'.objs.size = s.heap.objs.size + 5 →
      (∀ c o, s.heap.get? c = some o → h'.get? c = some o) → Q (.ref (s.heap.objs.size + 4)) { s with heap := h' }) :
    wpAny (model prog w) A (call (.type "zip") [.ref l1, .ref l2]) Q E s := by
  refine callType_new F.called_zip (by decide) (F.typeCall_zip_2 _ _) (F.newCall_zip_2 _ _) (fun obj => F.args_object_init_3 obj _ _) F.entry_zip_new
    (meets_zipN t1 t2 l1 l2 xs ys) ⟨hl1, hl2, ?_⟩
  have fr : ∀ t l, (itObj t l).isFreed = false := fun t l => by cases t <;> rfl
  have z1 : (zpH1 t1 s.heap l1).objs.size = s.heap.objs.size + 1 := Heap.size_push ..
  have z2 : (zpH2 t1 t2 s.heap l1 l2).objs.size = s.heap.objs.size + 2 := by rw [Heap.size_push, z1]
  have z3 : (zpH3 t1 t2 s.heap l1 l2).objs.size = s.heap.objs.size + 3 := by rw [Heap.size_push, z2]
  have z4 : (zpH4 t1 t2 s.heap l1 l2).objs.size = s.heap.objs.size + 4 := by rw [Heap.size_push, z3]
  have z5 : (zpH5 t1 t2 s.heap l1 l2).objs.size = s.heap.objs.size + 5 := by rw [Heap.size_push, z4]
  have g5 : (zpH5 t1 t2 s.heap l1 l2).get? (zpH4 t1 t2 s.heap l1 l2).objs.size = some _ := Heap.get?_push_size _ rfl
  have g4 : (zpH5 t1 t2 s.heap l1 l2).get? (zpH3 t1 t2 s.heap l1 l2).objs.size = some _ := Heap.get?_push_of_some _ (Heap.get?_push_size _ rfl)
  have g3 : (zpH5 t1 t2 s.heap l1 l2).get? (zpH2 t1 t2 s.heap l1 l2).objs.size = some _ := Heap.get?_push_of_some _ (Heap.get?_push_of_some _ (Heap.get?_push_size _ rfl))
  have g2 : (zpH5 t1 t2 s.heap l1 l2).get? (zpH1 t1 s.heap l1).objs.size = some _ := Heap.get?_push_of_some _ (Heap.get?_push_of_some _ (Heap.get?_push_of_some _ (Heap.get?_push_size _ (fr t2 l2))))
  have g1 : (zpH5 t1 t2 s.heap l1 l2).get? s.heap.objs.size = some _ := Heap.get?_push_of_some _ (Heap.get?_push_of_some _ (Heap.get?_push_of_some _ (Heap.get?_push_of_some _ (Heap.get?_push_size _ (fr t1 l1)))))
  show _ ∧ _
  rw [z2, z3, z4] at g5
  rw [z1, z2] at g3
  rw [z3] at g4
  rw [z1] at g2
  rw [z4]
  exact ⟨⟨_, g5, rfl⟩, h _ g5 g3 g4 (itObj_is g1) (itObj_is g2) z5 fun c o x =>
    Heap.get?_push_of_some _ (Heap.get?_push_of_some _ (Heap.get?_push_of_some _ (Heap.get?_push_of_some _ (Heap.get?_push_of_some _ x))))⟩
end

end L2

namespace L2
open PySem PySem.Spec PyProof.Rows
/-- pairs of two sequences, one after another, each a new tuple -/
def Itz (t1 t2 : Bool) (K : PySem.W.Frag) (a b : Addr) : It :=
  ⟨fun i H => ∃ xs ys x y, SqV t1 K H a xs ∧ SqV t2 K H b ys ∧ xs[i]? = some x ∧ ys[i]? = some y,
   fun i H v H' => ∃ p x y, v = .ref p ∧ H p = none ∧ H' = upd H p (.tup [x, y]) ∧ (∀ xs, SqV t1 K H a xs → xs[i]? = some x) ∧ ∀ ys, SqV t2 K H b ys → ys[i]? = some y,
   fun i H => ∃ xs ys, SqV t1 K H a xs ∧ SqV t2 K H b ys ∧ (xs.length ≤ i ∨ ys.length ≤ i)⟩
def Zst (t1 t2 : Bool) (z TI TO i1 i2 a b : Addr) (i : Nat) (h : Heap) : Prop :=
  IsZip h z TI TO .none ∧ IsPair h TI (.ref i1) (.ref i2) ∧ (∃ x y, IsPair h TO x y) ∧ SqI t1 h i1 a i ∧ SqI t2 h i2 b i
structure ZDist (z TI TO i1 i2 : Addr) : Prop where
  TIz : TI ≠ z
  TOz : TO ≠ z
  i1z : i1 ≠ z
  i2z : i2 ≠ z
  TITO : TI ≠ TO
  TIi1 : TI ≠ i1
  TIi2 : TI ≠ i2
  TOi1 : TO ≠ i1
  TOi2 : TO ≠ i2
  i12 : i1 ≠ i2

/-- some untracked records of ours have turned -/
theorem Inv.turnedN {X : Cx} {pins : List (Addr × Obj)} {σ : St} {H : Hp} {s : Shared} {h' : Heap} {t' : Nat} {fp : List Addr} (I : Inv X pins σ H s) (k : ∀ b o, b ∉ fp → s.heap.get? b = some o → h'.get? b = some o) (hf : ∀ b ∈ fp, FpOk X pins H b) : Inv X pins σ H { s with heap := h', toks := t' } := by
  have nit : ∀ b u, H b = some u → b ∉ fp := fun b u e z => by rw [(hf b z).1] at e; cases e
  refine I.step (g' := s.gens) (d' := s.drawn) (ch := fp) (fun b hb => ?_) (fun b o _ _ hc e _ => k b o hc e) (fun b o _ _ hc e _ => ⟨o.slots, k b o hc e⟩) (fun _ _ _ _ n => n)
    (fun b o hc e => ⟨o, k b o hc e⟩) (fun _ _ e => e) (fun _ _ _ e => e) (fun b ps e => ⟨#[], by rw [e]; simp⟩) (fun m hm => ?_) (fun b u e => ?_) I.bare
  · obtain ⟨f0, f1, f2, f3, f4, f5⟩ := hf b hb
    exact ⟨f3, f1, f4, f5⟩
  · obtain ⟨o, es, ep, ho, r⟩ := hm
    exact ⟨o, es, ep, k _ o (fun z => (hf _ z).2.1 rfl) ho, r⟩
  · refine (I.hok b u e).stay (fun c v hc q => k c v ?_ q) (fun _ q => q) fun _ _ q => q
    rcases hc with z | z
    · rw [z]; exact nit b u e
    · exact nit c _ z

theorem zdist (n : Nat) : ZDist (n + 4) (n + 2) (n + 3) n (n + 1) := by
  constructor <;> (intro h; have h' : (_ : Nat) = _ := h; omega)
theorem seq_nofp {X : Cx} {pins : List (Addr × Obj)} {σ : St} {H : Hp} {s : Shared} {fp : List Addr} {t : Bool} {l : Addr} {vs : List V} (I : Inv X pins σ H s) (hf : ∀ b ∈ fp, FpOk X pins H b) (q : SqV t X.K H l vs) : l ∉ fp := fun hl => by
  have hn := hf l hl
  have old : ∀ o, X.K.lookup l = some o → False := fun o hk => by
    rcases hn.2.2.2.1 with z' | z'
    · exact I.ok.noex l o (I.ok.mod.kin l o hk) z'
    · exact absurd (Nat.lt_of_lt_of_le (Heap.lt_size (I.ok.bs l o (I.ok.mod.kin l o hk)).1) z') (Nat.lt_irrefl _)
  cases t
  · rcases (show SqL X.K H l vs from q) with (q | ⟨o, q⟩) | ⟨o, _, _, hk, _⟩
    · rw [hn.1] at q; cases q
    · rw [hn.1] at q; cases q
    · exact old o hk
  · rcases (show SqT X.K H l vs from q) with (q | ⟨o, q⟩) | ⟨o, _, _, hk, _⟩
    · rw [hn.1] at q; cases q
    · rw [hn.1] at q; cases q
    · exact old o hk
theorem turn_zip {P : Program} {w : World} {K : PySem.W.Frag} {es : List Expr} {ek : Nat} {ep : Pos} {t1 t2 : Bool} (a b z TI TO i1 i2 : Addr) (D : ZDist z TI TO i1 i2) :
    Turn P w K (.Tuple es ek ep) (Itz t1 t2 K a b) [z, TI, TO, i1, i2] z (Zst t1 t2 z TI TO i1 i2 a b) where
  mem := by simp
  obj := fun i h ⟨hz, hTI, ⟨x, y, hTO⟩, h1, h2⟩ c hc => by
    simp only [List.mem_cons, List.not_mem_nil, or_false] at hc
    rcases hc with rfl | rfl | rfl | rfl | rfl
    · exact ⟨_, hz, fun v z => by cases z⟩
    · exact ⟨_, hTI, fun v z => by cases z⟩
    · exact ⟨_, hTO, fun v z => by cases z⟩
    · exact h1.obj
    · exact h2.obj
  keep := fun i h h' ⟨hz, hTI, ⟨x, y, hTO⟩, h1, h2⟩ k =>
    ⟨k z (by simp) _ hz, k TI (by simp) _ hTI, ⟨x, y, k TO (by simp) _ hTO⟩, h1.at fun o e => k i1 (by simp) o e, h2.at fun o e => k i2 (by simp) o e⟩
  item := by
    intro X hP hw hK hc i pins s σ H E I hf st hg
    subst hP hw hK
    obtain ⟨xs, ys, x, y, qx, qy, hx, hy⟩ := hg
    obtain ⟨hz, hTI, ⟨xo, yo, hTO⟩, h1, h2⟩ := st
    obtain ⟨ix, rx, px, zx⟩ := I.seqV qx
    obtain ⟨iy, ry, py, zy⟩ := I.seqV qy
    obtain ⟨u, hu, ru⟩ := rx.get hx
    obtain ⟨v, hv, rv⟩ := ry.get hy
    have inFp : ∀ c, c ∈ [z, TI, TO, i1, i2] → H c = none := fun c hc => (hf c hc).1
    have na := seq_nofp I hf qx
    have nb := seq_nofp I hf qy
    simp only [List.mem_cons, List.not_mem_nil, or_false, not_or] at na nb
    have DA : ZipApart z TI TO i1 i2 a b := ⟨D.TIz, D.TOz, D.i1z, D.i2z, D.TITO, D.TIi1, D.TIi2, D.TOi1, D.TOi2, D.i12, na.1, na.2.2.1, na.2.2.2.1, na.2.2.2.2, nb.1, nb.2.2.1, nb.2.2.2.1, nb.2.2.2.2⟩
    refine pyNext_zipN_item DA hz hTI hTO h1 h2 px py (x := u) (y := v) (by simpa using hu) (by simpa using hv) fun h' a1 a2 a3 a4 a5 a6 hk => ?_
    refine ⟨_, rfl, wpAny_letOwnedTupleGo_zip a1 fun h'' hz'' sb => ?_⟩
    have kk : ∀ c o, c ∉ [z, TI, TO, i1, i2] → s.heap.get? c = some o → h''.get? c = some o := fun c o hc e => by
      simp only [List.mem_cons, List.not_mem_nil, or_false, not_or] at hc
      exact (sb.2 c hc.1).trans (hk c o hc.1 hc.2.2.1 hc.2.2.2.1 hc.2.2.2.2 e)
    have lt5 : ∀ c ∈ [z, TI, TO, i1, i2], c < s.heap.objs.size := fun c hc => by
      simp only [List.mem_cons, List.not_mem_nil, or_false] at hc
      rcases hc with rfl | rfl | rfl | rfl | rfl
      · exact Heap.lt_size hz
      · exact Heap.lt_size hTI
      · exact Heap.lt_size hTO
      · obtain ⟨o, e, _⟩ := h1.obj; exact Heap.lt_size e
      · obtain ⟨o, e, _⟩ := h2.obj; exact Heap.lt_size e
    have nT : s.heap.objs.size ∉ [z, TI, TO, i1, i2] := fun hc => absurd (lt5 _ hc) (Nat.lt_irrefl _)
    have hT : h''.get? s.heap.objs.size = some { cls := .type "tuple", data := .seq #[u, v] } := (sb.2 _ (fun e => nT (by simp [e]))).trans a5
    have fresh : H s.heap.objs.size = none := I.hok.fresh (Nat.le_refl _)
    have gT : (s.heap.push { cls := .type "tuple", data := .seq #[u, v] }).get? s.heap.objs.size = some { cls := .type "tuple", data := .seq #[u, v] } := Heap.get?_push_size _ rfl
    have I1 : Inv X pins σ (upd H s.heap.objs.size (.tup [x, y])) { s with heap := s.heap.push { cls := .type "tuple", data := .seq #[u, v] }, toks := s.toks } :=
      I.laid (fun b o e => Heap.get?_push_of_some _ e) (Nat.le_refl _) ⟨by show 2 ≤ sizeLine; decide, [u, v], .cons ru (.cons rv .nil), _, gT, rfl, _, rfl⟩
    have fp1 : ∀ c ∈ [z, TI, TO, i1, i2], FpOk X pins (upd H s.heap.objs.size (.tup [x, y])) c := fun c hc =>
      ⟨by rw [upd_ne (Nat.ne_of_lt (lt5 c hc))]; exact (hf c hc).1, (hf c hc).2⟩
    have I2 := I1.turnedN (h' := h'') (t' := s.toks) (fp := [z, TI, TO, i1, i2]) (fun c o hc e => by
      rcases Heap.get?_push_cases e with ⟨e1, e2⟩ | e1
      · rw [e1, e2]
        exact hT
      · exact kk c o hc e1) fp1
    refine ⟨.ref s.heap.objs.size, _, I2, rfl, ⟨_, x, y, rfl, fresh, rfl, fun xs' q => by rw [I.seqV_inj q qx]; exact hx, fun ys' q => by rw [I.seqV_inj q qy]; exact hy⟩, ?_, fun c hc => (fp1 c hc).1⟩
    exact ⟨hz'', (sb.2 _ D.TIz).trans (hk _ _ D.TIz D.TITO D.TIi1 D.TIi2 hTI), ⟨u, v, (sb.2 _ D.TOz).trans a2⟩, a3.at fun o e => (sb.2 _ D.i1z).trans e, a4.at fun o e => (sb.2 _ D.i2z).trans e⟩
  done := by
    intro X hP hw hK hc i pins s σ H E I hf st hg
    subst hP hw hK
    obtain ⟨xs, ys, qx, qy, hend⟩ := hg
    obtain ⟨hz, hTI, ⟨xo, yo, hTO⟩, h1, h2⟩ := st
    obtain ⟨ix, rx, px, zx⟩ := I.seqV qx
    obtain ⟨iy, ry, py, zy⟩ := I.seqV qy
    have na := seq_nofp I hf qx
    have nb := seq_nofp I hf qy
    simp only [List.mem_cons, List.not_mem_nil, or_false, not_or] at na nb
    have DA : ZipApart z TI TO i1 i2 a b := ⟨D.TIz, D.TOz, D.i1z, D.i2z, D.TITO, D.TIi1, D.TIi2, D.TOi1, D.TOi2, D.i12, na.1, na.2.2.1, na.2.2.2.1, na.2.2.2.2, nb.1, nb.2.2.1, nb.2.2.2.1, nb.2.2.2.2⟩
    have lx := rx.length
    have ly := ry.length
    refine pyNext_zipN_end (I.ok.hd hc) DA hz hTI hTO h1 h2 px py ?_ fun h' hk => ⟨rfl, I.turnedN (t' := s.toks) (fun c o hc e => ?_) hf⟩
    · rcases hend with q | q
      · exact .inl (by simp; omega)
      · exact .inr (by simp; omega)
    · simp only [List.mem_cons, List.not_mem_nil, or_false, not_or] at hc
      exact hk c o hc.1 hc.2.2.1 hc.2.2.2.1 hc.2.2.2.2 e
  self := fun _ _ _ _ _ st h => wpAny_pyIter_zip st.1 h

def iZip (t1 t2 : Bool) (K : PySem.W.Frag) (ta : TA) : TI := fun σ H R => ta σ H fun vs H1 => ∃ a b, vs = [.ref a, .ref b] ∧ (∃ xs, SqV t1 K H1 a xs) ∧ (∃ ys, SqV t2 K H1 b ys) ∧ R (Itz t1 t2 K a b) H1
theorem pi_zip {X : Cx} (t1 t2 : Bool) {es : List Expr} {ek : Nat} {ep : Pos} {a b : Expr} {ta : TA} {p pos : Pos} (hg : Gl X "zip") (hm : X.mg "zip" = none) (ha : PA X [a, b] ta) (hs : starEach [a, b] X.env = [(false, eval a X.env), (false, eval b X.env)] := by rfl) (hs2 : starEach [b] X.env = [(false, eval b X.env)] := by rfl) :
    PI X (.Tuple es ek ep) (.Call (.Name "zip" p) [a, b] [] pos) (iZip t1 t2 X.K ta) := by
  intro pins s σ H R I h
  refine Call_ (ld_blt I hg hm boot_zip (PyProof.Rows.callWith_type1 (thn (ha pos pins s σ H _ I h) fun us s1 ⟨vs, H1, I1, r1, q1⟩ => ?_) (by rw [hs, hs2]) (by rw [hs2]; rfl)))
  obtain ⟨l1, l2, e, ⟨xs, qx⟩, ⟨ys, qy⟩, q⟩ := q1
  subst e
  cases r1 with
  | cons r rr =>
    cases rr with
    | cons r' rr =>
      cases rr
      cases r
      cases r'
      obtain ⟨ix, rx, px, zx⟩ := I1.seqV qx
      obtain ⟨iy, ry, py, zy⟩ := I1.seqV qy
      refine call_zipN px py fun h' a1 a2 a3 a4 a5 a6 a7 => ?_
      have I2 : Inv X pins σ H1 { s1 with heap := h', toks := s1.toks } := I1.kept a7
      refine wpAny_pyIter_zip (s := { s1 with heap := h' }) a1 ?_
      refine ⟨_, [s1.heap.objs.size + 4, s1.heap.objs.size + 2, s1.heap.objs.size + 3, s1.heap.objs.size, s1.heap.objs.size + 1], _, _, H1, rfl, I2, turn_zip l1 l2 (s1.heap.objs.size + 4) (s1.heap.objs.size + 2) (s1.heap.objs.size + 3) s1.heap.objs.size (s1.heap.objs.size + 1) (zdist _), ⟨a1, a2, ⟨_, _, a3⟩, a4, a5⟩, fun b hb => ?_, q⟩
      have hb' : s1.heap.objs.size ≤ b := by
        simp only [List.mem_cons, List.not_mem_nil, or_false] at hb
        rcases hb with rfl | rfl | rfl | rfl | rfl
        · exact Nat.le_add_right _ _
        · exact Nat.le_add_right _ _
        · exact Nat.le_add_right _ _
        · exact Nat.le_refl _
        · exact Nat.le_add_right _ _
      exact I1.fpOk hb' (I1.hok.fresh hb')
end L2

namespace L2
open PySem PySem.Spec PyProof.Rows

/-! ### data at any depth -/
mutual
inductive DR (K : PySem.W.Frag) (H : Hp) : PyData → V → Prop
  | non : DR K H .none .non
  | bl (b : Bool) : DR K H (.bool b) (.bl b)
  | int (i : Int) : DR K H (.int i) (.int i)
  | str (x : Str) : DR K H (.str x) (.str x)
  | tup {a : Addr} {vs : List V} {ds : List PyData} : SqT K H a vs → DRs K H ds vs → DR K H (.tuple ds) (.ref a)
  | lst {a : Addr} {vs : List V} {ds : List PyData} : SqL K H a vs → DRs K H ds vs → DR K H (.list ds) (.ref a)
inductive DRs (K : PySem.W.Frag) (H : Hp) : List PyData → List V → Prop
  | nil : DRs K H [] []
  | cons {d : PyData} {v : V} {ds : List PyData} {vs : List V} : DR K H d v → DRs K H ds vs → DRs K H (d :: ds) (v :: vs)
end
section
variable {X : Cx} {pins : List (Addr × Obj)} {σ : St} {H : Hp} {s : Shared}
mutual
theorem DR.reads (I : Inv X pins σ H s) : ∀ {d : PyData} {v : V} {u : Value}, DR X.K H d v → RelV v u → ∃ as, Reads s.heap u d as
  | _, _, _, .non, r => by cases (show _ = Value.none from r); exact ⟨_, .none⟩
  | _, _, _, .bl b, r => by cases (show _ = Value.bool b from r); exact ⟨_, .bool b⟩
  | _, _, _, .int i, r => by obtain ⟨t, q⟩ := (show ∃ t, _ = Value.int i t from r); subst q; exact ⟨_, .int i t⟩
  | _, _, _, .str x, r => by obtain ⟨t, q⟩ := (show ∃ t, _ = Value.str x t from r); subst q; exact ⟨_, .str x t⟩
  | _, _, _, .tup (a := a) q qs, r => by
    cases (show _ = Value.ref a from r)
    obtain ⟨its, rv, ⟨o, e, c, n, d⟩, z⟩ := I.tuple q
    obtain ⟨as, ra⟩ := DRs.reads I qs rv
    exact ⟨as, .tuple e c d (by simpa using ra)⟩
  | _, _, _, .lst (a := a) q qs, r => by
    cases (show _ = Value.ref a from r)
    obtain ⟨its, rv, ⟨o, n, e, c, _, d⟩, z⟩ := I.list q
    obtain ⟨as, ra⟩ := DRs.reads I qs rv
    exact ⟨_, .list e c d (by simpa using ra)⟩
theorem DRs.reads (I : Inv X pins σ H s) : ∀ {ds : List PyData} {vs : List V} {us : List Value}, DRs X.K H ds vs → Vals vs us → ∃ as, ReadsAll s.heap us ds as
  | _, _, _, .nil, r => by cases r; exact ⟨_, .nil⟩
  | _, _, _, .cons q qs, r => by
    cases r with
    | cons r rr =>
      obtain ⟨as, ra⟩ := DR.reads I q r
      obtain ⟨bs, rb⟩ := DRs.reads I qs rr
      exact ⟨_, .cons ra rb⟩
end
def rEqD (K : PySem.W.Frag) : R2 := fun x y H Q => ∃ d e, DR K H d x ∧ DR K H e y ∧ SeqAt.shaped d = true ∧ SeqAt.shaped e = true ∧ Q (.bl (PyData.eqv d e)) H
def rNeD (K : PySem.W.Frag) : R2 := fun x y H Q => ∃ d e, DR K H d x ∧ DR K H e y ∧ SeqAt.shaped d = true ∧ SeqAt.shaped e = true ∧ Q (.bl (!PyData.eqv d e)) H
theorem op_eqD (hu : X.A.units + 64 < cLine) : OpR X (compareOp .Eq) (rEqD X.K) := by
  intro pins s σ H x y v u Q I rx ry h
  obtain ⟨d, e, dx, dy, sx, sy, q⟩ := h
  obtain ⟨as, ra⟩ := dx.reads I rx
  obtain ⟨bs, rb⟩ := dy.reads I ry
  exact eq_dataH ra rb sx sy hu ⟨.bl _, H, I, rfl, q⟩
theorem op_neD (hu : X.A.units + 64 < cLine) : OpR X (compareOp .NotEq) (rNeD X.K) := by
  intro pins s σ H x y v u Q I rx ry h
  obtain ⟨d, e, dx, dy, sx, sy, q⟩ := h
  obtain ⟨as, ra⟩ := dx.reads I rx
  obtain ⟨bs, rb⟩ := dy.reads I ry
  exact ne_dataH ra rb sx sy hu ⟨.bl _, H, I, rfl, q⟩
end
/-- tuples of ints as data -/
def dInts (ns : List Int) : PyData := .tuple (ns.map .int)
theorem drs_ints {K : PySem.W.Frag} {H : Hp} : ∀ ns : List Int, DRs K H (ns.map PyData.int) (ns.map V.int)
  | [] => .nil
  | n :: r => .cons (.int n) (drs_ints r)
theorem dr_ints {K : PySem.W.Frag} {H : Hp} {a : Addr} {ns : List Int} (h : SqT K H a (ns.map V.int)) : DR K H (dInts ns) (.ref a) := .tup h (drs_ints ns)
theorem shaped_ints (ns : List Int) : SeqAt.shaped (dInts ns) = true := by
  simp [dInts, SeqAt.shaped, PyData.canLay0, PyData.depth, PySem.W.ke_canLayAll0, PySem.W.ke_depthAll]
theorem eqvAll_ints : ∀ ns ms : List Int, PyData.eqvAll (ns.map PyData.int) (ms.map PyData.int) = decide (ns = ms)
  | [], [] => by simp [PyData.eqvAll]
  | [], _ :: _ => by simp [PyData.eqvAll]
  | _ :: _, [] => by simp [PyData.eqvAll]
  | a :: r, b :: t => by
    simp only [List.map_cons, PyData.eqvAll, PyData.eqv, eqvAll_ints r t]
    by_cases h : a = b <;> by_cases h' : r = t <;> simp [h, h']
theorem eqv_ints (ns ms : List Int) : PyData.eqv (dInts ns) (dInts ms) = decide (ns = ms) := by
  simp only [dInts, PyData.eqv]; exact eqvAll_ints ns ms

/-! ### all, sum -/
section
variable {X : Cx}
theorem Walks.sq {prog : Program} {w : World} {A : Around} (t : Bool) (hh : A.handled = none) (I ax : Addr) (hne : ax ≠ I) (items : Array Value) :
    Walks prog w A I [I, ax] [I] items.size (fun i v => items[i]? = some v) (fun i h => SqI t h I ax i ∧ SqO t h ax items) := by
  cases t
  · exact Walks.list hh I ax hne items
  · exact Walks.tuple hh I ax hne items
theorem call_allV (hc : X.calm = true) (t : Bool) : CallR X (.builtin "all") (fun xs H Q => ∃ (p : Addr) (bs : List Bool), xs = [.ref p] ∧ SqV t X.K H p (bs.map V.bl) ∧ Q (.bl (bs.all id)) H) := by
  intro pins s σ H xs us Q I rv h
  obtain ⟨p, bs, rfl, q, hq⟩ := h
  obtain ⟨u, rfl, ru⟩ := vals1 rv
  cases ru
  obtain ⟨its, rb, po, z⟩ := I.seqV q
  have hh : X.A.in1.handled = none := I.ok.hd hc
  refine call_all_walk (pyIter_sq po fun o hi => ?_)
  have hlt : p < s.heap.objs.size := by obtain ⟨ob, e⟩ := po.obj; exact Heap.lt_size e
  refine ⟨s.heap.objs.size, _, _, _, _, _, fun i => bs.getD i false, rfl, Walks.sq t hh s.heap.objs.size p (Nat.ne_of_lt hlt) its.toArray, ⟨hi, po.at fun o' e => Heap.get?_push_of_some _ e⟩, ?_, fun h' tk hk => ?_⟩
  · intro i v s' Q' E' hv hQ
    have hv' : its[i]? = some v := by simpa using hv
    have hlen := rb.length
    have hil : i < its.length := (List.getElem?_eq_some_iff.mp hv').1
    rw [List.length_map] at hlen
    have hb : (bs.map V.bl)[i]? = some (.bl (bs.getD i false)) := by
      rw [List.getElem?_map, List.getD_eq_getElem?_getD, List.getElem?_eq_getElem (by omega)]
      rfl
    obtain ⟨u, hu, ru⟩ := rb.get hb
    rw [hv'] at hu
    cases hu
    cases (show v = Value.bool _ from ru)
    exact wpAny_truthy_bool hQ
  · have I1 : Inv X pins σ H { s with heap := s.heap.push o, toks := s.toks } := I.kept fun b u e => Heap.get?_push_of_some _ e
    have fp : FpOk X pins H s.heap.objs.size := I.fpOk (Nat.le_refl _) (I.hok.fresh (Nat.le_refl _))
    have I2 : Inv X pins σ H { s with heap := h', toks := tk } := by
      have := I1.turnedN (fp := [s.heap.objs.size]) (h' := h') (t' := tk) (fun b ob hb e => hk b ob hb e) (fun b hb => by have e : b = s.heap.objs.size := by simpa using hb
                                                                                                                          subst e; exact fp)
      exact this
    refine ⟨.bl (bs.all id), H, I2, ?_, hq⟩
    show Value.bool _ = Value.bool _
    congr 1
    have hlen := rb.length
    rw [List.length_map] at hlen
    have hsz : its.toArray.size = bs.length := by simp [hlen]
    rw [hsz]
    rw [Bool.eq_iff_iff]
    simp only [List.all_eq_true, List.mem_range]
    constructor
    · intro h b hb
      obtain ⟨i, hi, rfl⟩ := List.getElem_of_mem hb
      have := h i hi
      simpa [List.getD_eq_getElem?_getD, List.getElem?_eq_getElem hi] using this
    · intro h i hi
      have := h (bs[i]) (List.getElem_mem hi)
      simpa [List.getD_eq_getElem?_getD, List.getElem?_eq_getElem hi] using this
theorem preSum_list (ns : List Int) : ∀ k, k ≤ ns.length → preSum (fun i => ns.getD i 0) k = (ns.take k).sum := by
  intro k
  induction k with
  | zero => intro _; rfl
  | succ k ih =>
    intro h
    have e := ih (by omega)
    show preSum _ k + _ = _
    rw [e, List.take_succ, List.sum_append, List.getElem?_eq_getElem (by omega)]
    show _ + ns.getD k 0 = _
    rw [List.getD_eq_getElem?_getD, List.getElem?_eq_getElem (by omega)]
    simp
theorem call_sumV (hc : X.calm = true) (t : Bool) : CallR X (.builtin "sum") (fun xs H Q => ∃ (p : Addr) (ns : List Int), xs = [.ref p] ∧ SqV t X.K H p (ns.map V.int) ∧ Q (.int ns.sum) H) := by
  intro pins s σ H xs us Q I rv h
  obtain ⟨p, ns, rfl, q, hq⟩ := h
  obtain ⟨u, rfl, ru⟩ := vals1 rv
  cases ru
  obtain ⟨its, rb, po, z⟩ := I.seqV q
  have hh : X.A.in1.handled = none := I.ok.hd hc
  refine call_sum_walkG (pyIter_sq po fun o hi => ?_)
  have hlt : p < s.heap.objs.size := by obtain ⟨ob, e⟩ := po.obj; exact Heap.lt_size e
  refine ⟨s.heap.objs.size, _, _, _, _, _, fun i => ns.getD i 0, rfl, Walks.sq t hh s.heap.objs.size p (Nat.ne_of_lt hlt) its.toArray, ⟨hi, po.at fun o' e => Heap.get?_push_of_some _ e⟩, fun b hb => ?_, ?_, fun h' tk t' hk => ?_⟩
  · show b < (s.heap.push o).objs.size
    rw [Heap.size_push]
    rcases List.mem_cons.mp hb with rfl | hb
    · exact Nat.lt_succ_self _
    · rcases List.mem_cons.mp hb with rfl | hb
      · exact Nat.lt_succ_of_lt hlt
      · cases hb
  · intro i v hv
    have hv' : its[i]? = some v := by simpa using hv
    have hlen := rb.length
    have hil : i < its.length := (List.getElem?_eq_some_iff.mp hv').1
    rw [List.length_map] at hlen
    have hb : (ns.map V.int)[i]? = some (.int (ns.getD i 0)) := by
      rw [List.getElem?_map, List.getD_eq_getElem?_getD, List.getElem?_eq_getElem (by omega)]
      rfl
    obtain ⟨u, hu, ru⟩ := rb.get hb
    rw [hv'] at hu
    cases hu
    exact ru
  · have I1 : Inv X pins σ H { s with heap := s.heap.push o, toks := s.toks } := I.kept fun b u e => Heap.get?_push_of_some _ e
    have fp : FpOk X pins H s.heap.objs.size := I.fpOk (Nat.le_refl _) (I.hok.fresh (Nat.le_refl _))
    have I2 : Inv X pins σ H { s with heap := h', toks := tk } := by
      have := I1.turnedN (fp := [s.heap.objs.size]) (h' := h') (t' := tk) (fun b ob hb e => hk b ob hb e) (fun b hb => by have e : b = s.heap.objs.size := by simpa using hb
                                                                                                                          subst e; exact fp)
      exact this
    have hlen := rb.length
    rw [List.length_map] at hlen
    have hsz : its.toArray.size = ns.length := by simp [hlen]
    refine ⟨.int ns.sum, H, I2, ⟨t', ?_⟩, hq⟩
    rw [hsz, preSum_list ns _ (Nat.le_refl _), List.take_of_length_le (Nat.le_refl _)]
end
end L2

namespace L2
open PySem PySem.Spec PyProof.Rows
section
variable {X : Cx} {pos : Pos}
/-- isinstance(x, a built-in type) -/
def rIsT (K : PySem.W.Frag) : List V → Hp → VK → Prop := fun xs H Q => ∃ (x : V) (t : Value) (c : String) (b : Bool), xs = [x, .ty c] ∧ TyOf K H x t ∧ PySem.W.kitOne K t (.type c) = some b ∧ Q (.bl b) H
theorem call_isT : CallR X (.builtin "isinstance") (rIsT X.K) := by
  intro pins s σ H xs us Q I rv h
  obtain ⟨x, t, c, b, rfl, ty, e, q⟩ := h
  obtain ⟨u, u', rfl, r1, r2⟩ := vals2 rv
  cases (show u' = Value.type c from r2)
  exact isinst_ok I r1 ty e fun tk => ⟨.bl b, H, I.tok tk, rfl, q⟩
theorem boot_isinst : bootBuiltins "isinstance" = some (.builtin "isinstance") := by decide +kernel
theorem boot_all' : bootBuiltins "all" = some (.builtin "all") := by decide +kernel
theorem boot_sum' : bootBuiltins "sum" = some (.builtin "sum") := by decide +kernel
theorem boot_max' : bootBuiltins "max" = some (.builtin "max") := by decide +kernel
theorem boot_min' : bootBuiltins "min" = some (.builtin "min") := by decide +kernel
theorem boot_abs' : bootBuiltins "abs" = some (.builtin "abs") := by decide +kernel
theorem boot_tuple' : bootBuiltins "tuple" = some (.type "tuple") := by decide +kernel
theorem boot_list' : bootBuiltins "list" = some (.type "list") := by decide +kernel
theorem boot_int' : bootBuiltins "int" = some (.type "int") := by decide +kernel
theorem boot_bool' : bootBuiltins "bool" = some (.type "bool") := by decide +kernel

/-- // of two ints, the second of at most 8999 bits -/
def CDivA (_ j : Int) : Prop := j ≠ 0 ∧ j.natAbs < 2 ^ 4000
theorem CDivA.ok {i j : Int} (h : CDivA i j) : Builtin.divisionGoesByPylong i j = false := by
  refine PyProof.noPylong_of_log2 ?_
  by_cases h0 : j.natAbs = 0
  · rw [h0]; decide +kernel
  · have h30 : j.natAbs.log2 < 4000 := (Nat.log2_lt h0).mpr h.2
    omega
theorem op_fdivA : OpR X (binaryOp .FloorDiv) (rI CDivA fun i j => .int (i.fdiv j)) := opI fun _ _ _ _ _ _ _ hc q => floordiv_int hc.1 q (.inl hc.ok)
theorem op_mulA : OpR X (binaryOp .Mult) (rI IntMulOk fun i j => .int (i * j)) := opI fun _ _ _ _ _ _ _ hc q => mul_int q hc
theorem mulOk {i j : Int} (hi : i.natAbs < 2 ^ 4000) (hj : j.natAbs < 2 ^ 4000) : IntMulOk i j := by
  have bits : ∀ {k : Int}, k.natAbs < 2 ^ 4000 → Builtin.Int.intBits k ≤ 4000 := fun {k} h => by
    unfold Builtin.Int.intBits
    split
    · omega
    · rename_i h0
      have h0' : k.natAbs ≠ 0 := by intro z; apply h0; simp; omega
      have := (Nat.log2_lt h0').mpr h
      omega
  have h1 := bits hi
  have h2 := bits hj
  unfold IntMulOk
  have h3 : Builtin.Int.intTooBig ((Builtin.Int.intBits i : Int) + Builtin.Int.intBits j) = false := by
    unfold Builtin.Int.intTooBig
    rw [decide_eq_false_iff_not]
    have : bitsLine = 2 ^ 27 := rfl
    rw [this]
    omega
  rw [h3]
  simp
theorem op_isnotB : OpR X (compareOp .IsNot) (fun x y H Q => ∃ b c, x = .bl b ∧ y = .bl c ∧ Q (.bl (b != c)) H) := by
  intro pins s σ H x y v u Q I rx ry h
  obtain ⟨b, c, rfl, rfl, q⟩ := h
  cases rx
  cases ry
  exact isnot_bool ⟨.bl _, H, I, rfl, q⟩
end
end L2

namespace L2
open PySem PySem.Spec PyProof.Rows

/-! ### a def by its name -/
structure FnB (P : Program) (w : World) (K : PySem.W.Frag) (mg : Str → Option Value) (base : Heap) (k : Nat) (x : Str) (sp : Sp) : Prop where
  ex : ∃ f fd ps, FnOk P w K mg base CX0 k f fd ps sp ∧ mg x = some (.ref f) ∧ PySem.W.keepIn K (.ref f) = true ∧ Binds K fd ps []
/-- the names of built-ins that the text has not taken -/
structure Blt (mg : Str → Option Value) : Prop where
  len : mg "len" = none
  range : mg "range" = none
  zip : mg "zip" = none
  all : mg "all" = none
  sum : mg "sum" = none
  max : mg "max" = none
  min : mg "min" = none
  abs : mg "abs" = none
  tuple : mg "tuple" = none
  list : mg "list" = none
  int : mg "int" = none
  bool : mg "bool" = none
  isinst : mg "isinstance" = none
  enum : mg "enumerate" = none
  sorted : mg "sorted" = none
  set : mg "set" = none
  str : mg "str" = none
section
variable {X : Cx} {p pos : Pos} {e e2 : Expr} {es : List Expr} {t : TA} {te te2 : TE}
theorem pe_fn {x : Str} {k : Nat} {sp : Sp} (F : FnB X.prog X.w X.K X.mg X.base k x sp) (hr : Room k X.A) (ha : PA X (e :: es) t) (hg : Gl X x := by rfl) (hdb : (x == ("__debug__" : Str)) = false := by decide)
    (he : starEach (e :: es) X.env = (false, eval e X.env) :: starEach es X.env := by rfl) (hpl : (backTo pos (starEach es X.env)).any (·.1) = false := by rfl) : PE X (.Call (.Name x p) (e :: es) [] pos) (tCall sp [] E0 t) := by
  obtain ⟨f, fd, ps, F', hm, hk, hb⟩ := F.ex
  exact pe_call F' hr hg hm hk hb .nil pass0 ha hdb he hpl
theorem pl_len (T : Blt X.mg) (ha : PE X e te) (hg : Gl X "len" := by rfl) (hs : starEach [e] X.env = [(false, eval e X.env)] := by rfl) : PE X (.Call (.Name "len" p) [e] [] pos) (tCB (fun xs H Q => ∃ p ys, xs = [.ref p] ∧ (SqL X.K H p ys ∨ SqT X.K H p ys) ∧ Q (.int ys.length) H) (tCons te tNil)) :=
  pe_callB call_len_seq hg T.len PySem.boot_len (pa_cons ha pa_nil hs) (by decide) (by decide) hs
theorem pl_all (T : Blt X.mg) (ha : PE X e te) (b : Bool) (hc : X.calm = true := by rfl) (hg : Gl X "all" := by rfl) (hs : starEach [e] X.env = [(false, eval e X.env)] := by rfl) : PE X (.Call (.Name "all" p) [e] [] pos) (tCB (fun xs H Q => ∃ (p : Addr) (bs : List Bool), xs = [.ref p] ∧ SqV b X.K H p (bs.map V.bl) ∧ Q (.bl (bs.all id)) H) (tCons te tNil)) :=
  pe_callB (call_allV hc b) hg T.all boot_all' (pa_cons ha pa_nil hs) (by decide) (by decide) hs
theorem pl_sum (T : Blt X.mg) (ha : PE X e te) (b : Bool) (hc : X.calm = true := by rfl) (hg : Gl X "sum" := by rfl) (hs : starEach [e] X.env = [(false, eval e X.env)] := by rfl) : PE X (.Call (.Name "sum" p) [e] [] pos) (tCB (fun xs H Q => ∃ (p : Addr) (ns : List Int), xs = [.ref p] ∧ SqV b X.K H p (ns.map V.int) ∧ Q (.int ns.sum) H) (tCons te tNil)) :=
  pe_callB (call_sumV hc b) hg T.sum boot_sum' (pa_cons ha pa_nil hs) (by decide) (by decide) hs
theorem pl_tuple (T : Blt X.mg) (ha : PE X e te) (hg : Gl X "tuple" := by rfl) (hs : starEach [e] X.env = [(false, eval e X.env)] := by rfl) : PE X (.Call (.Name "tuple" p) [e] [] pos) (tCB (fun xs H Q => ∃ p ys, xs = [.ref p] ∧ SqL X.K H p ys ∧ ∀ l, H l = none → Q (.ref l) (upd H l (.tup ys))) (tCons te tNil)) := by
  refine pe_callTy (r := fun xs H Q => ∃ p ys, xs = [.ref p] ∧ SqL X.K H p ys ∧ ∀ l, H l = none → Q (.ref l) (upd H l (.tup ys))) ?_ hg T.tuple boot_tuple' (pa_cons ha pa_nil hs) (by decide) (by decide) hs
  intro pins s σ H xs us Q I rv h
  obtain ⟨p, ys, rfl, q, hq⟩ := h
  exact call_tuple_of pins s σ H _ us Q I rv ⟨p, ys, rfl, .inl ⟨q, hq⟩⟩
theorem pl_max (T : Blt X.mg) (ha : PA X [e, e2] t) (hc : X.calm = true := by rfl) (hg : Gl X "max" := by rfl) (he : starEach [e, e2] X.env = (false, eval e X.env) :: starEach [e2] X.env := by rfl) (hpl : (backTo pos (starEach [e2] X.env)).any (·.1) = false := by rfl) :
    PE X (.Call (.Name "max" p) [e, e2] [] pos) (tCB (fun xs H Q => ∃ i j, xs = [.int i, .int j] ∧ Q (.int (if j > i then j else i)) H) t) :=
  pe_callB (call_max2 hc) hg T.max boot_max' ha (by decide) (by decide) he hpl
theorem pl_min (T : Blt X.mg) (ha : PA X [e, e2] t) (hc : X.calm = true := by rfl) (hg : Gl X "min" := by rfl) (he : starEach [e, e2] X.env = (false, eval e X.env) :: starEach [e2] X.env := by rfl) (hpl : (backTo pos (starEach [e2] X.env)).any (·.1) = false := by rfl) :
    PE X (.Call (.Name "min" p) [e, e2] [] pos) (tCB (fun xs H Q => ∃ i j, xs = [.int i, .int j] ∧ Q (.int (if j < i then j else i)) H) t) :=
  pe_callB (call_min2 hc) hg T.min boot_min' ha (by decide) (by decide) he hpl
theorem pl_abs (T : Blt X.mg) (ha : PE X e te) (hg : Gl X "abs" := by rfl) (hs : starEach [e] X.env = [(false, eval e X.env)] := by rfl) : PE X (.Call (.Name "abs" p) [e] [] pos) (tCB (fun xs H Q => ∃ i, xs = [.int i] ∧ Q (.int (if i < 0 then -i else i)) H) (tCons te tNil)) :=
  pe_callB call_abs hg T.abs boot_abs' (pa_cons ha pa_nil hs) (by decide) (by decide) hs
/-- isinstance(e, c) -/
def rIsM (K : PySem.W.Frag) : List V → Hp → VK → Prop := fun xs H Q => match xs with
  | [x, .ty c] => ∃ (t : Value) (b : Bool), TyOf K H x t ∧ PySem.W.kitOne K t (.type c) = some b ∧ Q (.bl b) H
  | _ => False
theorem call_isM : CallR X (.builtin "isinstance") (rIsM X.K) := by
  intro pins s σ H xs us Q I rv h
  unfold rIsM at h
  split at h
  · obtain ⟨t, b, ty, e, q⟩ := h
    exact call_isT pins s σ H _ us Q I rv ⟨_, t, _, b, rfl, ty, e, q⟩
  · exact h.elim
theorem pl_is {cn : Str} {c : String} {p2 : Pos} (T : Blt X.mg) (ha : PE X e te) (hm : X.mg cn = none) (hv : bootBuiltins cn = some (.type c)) (hg : Gl X "isinstance" := by rfl) (hg2 : Gl X cn := by rfl) (hn : cn ≠ "__name__" := by decide) (hd : (cn == ("__debug__" : Str)) = false := by decide)
    (he : starEach [e, .Name cn p2] X.env = (false, eval e X.env) :: starEach [.Name cn p2] X.env := by rfl) (he2 : starEach [.Name cn p2] X.env = [(false, eval (.Name cn p2) X.env)] := by rfl) :
    PE X (.Call (.Name "isinstance" p) [e, .Name cn p2] [] pos) (tCB (rIsM X.K) (tCons te (tCons (tC (.ty c)) tNil))) :=
  pe_callB (X := X) (p := p) (pos := pos) call_isM hg T.isinst boot_isinst (pa_cons ha (pa_cons (pe_bltn (v := .ty c) (pos := p2) hg2 hm hv rfl hn hd) pa_nil he2) he) (by decide) (by decide) he (by rw [he2]; rfl)
end

/-! ### comprehensions, read -/
theorem comp_gen {J : It} {n : Nat} {acc : Addr} {g : TG} {tt : TT} {te : TE} {Q : VK} {σ0 : St} {H0 : Hp} (Pv : Nat → List V → St → Hp → Prop) (hn : n ≤ sizeLine) (h0 : Pv 0 [] σ0 (upd H0 acc (.lst [])))
    (hgo : ∀ i zs σ H, i < n → H acc = some (.lst zs) → Pv i zs σ H → J.go i H)
    (hst : ∀ zs σ H, H acc = some (.lst zs) → Pv n zs σ H → J.stop n H)
    (hs : ∀ i zs σ H x H', i < n → H acc = some (.lst zs) → zs.length ≤ i → Pv i zs σ H → J.yld i H x H' → g x σ H' fun σ2 H2 => tt σ2 H2 fun b H3 =>
      if b = true then te σ2 H3 fun y H4 => ∃ ys, H4 acc = some (.lst ys) ∧ ys.length < sizeLine ∧ ∃ zs, (upd H4 acc (.lst (ys ++ [y]))) acc = some (.lst zs) ∧ zs.length ≤ i + 1 ∧ Pv (i + 1) zs σ2 (upd H4 acc (.lst (ys ++ [y])))
      else ∃ zs, H3 acc = some (.lst zs) ∧ zs.length ≤ i + 1 ∧ Pv (i + 1) zs σ2 H3)
    (hd : ∀ zs σ H, H acc = some (.lst zs) → zs.length ≤ n → Pv n zs σ H → Q (.ref acc) H) :
    ∃ W : Nat → Nat → St → Hp → Prop, (∃ m, W 0 m σ0 (upd H0 acc (.lst []))) ∧ ∀ i m σ H, W i m σ H →
      (J.stop i H ∧ Q (.ref acc) H) ∨ (J.go i H ∧ ∃ N : St → Hp → Prop, (∀ σ' H', N σ' H' → ∃ m', m' < m ∧ W (i + 1) m' σ' H') ∧ ∀ x H', J.yld i H x H' → g x σ H' fun σ2 H2 => tt σ2 H2 fun b H3 =>
        if b = true then te σ2 H3 fun y H4 => ∃ ys, H4 acc = some (.lst ys) ∧ ys.length < sizeLine ∧ N σ2 (upd H4 acc (.lst (ys ++ [y]))) else N σ2 H3) := by
  refine ⟨fun i m σ H => m = n - i ∧ i ≤ n ∧ ∃ zs, H acc = some (.lst zs) ∧ zs.length ≤ i ∧ Pv i zs σ H, ⟨n, by simp, Nat.zero_le _, [], upd_same, Nat.le_refl _, h0⟩, ?_⟩
  rintro i m σ H ⟨rfl, hi, zs, hz, hl, p⟩
  by_cases hlt : i < n
  · refine .inr ⟨hgo i zs σ H hlt hz p, fun σ' H' => ∃ zs, H' acc = some (.lst zs) ∧ zs.length ≤ i + 1 ∧ Pv (i + 1) zs σ' H', fun σ' H' p' => ⟨n - (i + 1), by omega, rfl, hlt, p'⟩, fun x H' y => ?_⟩
    exact hs i zs σ H x H' hlt hz hl p y
  · have e : i = n := by omega
    subst e
    exact .inl ⟨hst zs σ H hz p, hd zs σ H hz hl p⟩
end L2

namespace L2
open PySem PySem.Spec PyProof.Rows
theorem Same.sqT {K : PySem.W.Frag} {H H' : Hp} {a : Addr} {xs : List V} (e : Same H H') (h : SqT K H a xs) : SqT K H' a xs := by
  rcases h with (h | ⟨o, h⟩) | h
  · exact .inl (.inl (e _ _ h))
  · exact .inl (.inr ⟨o, e _ _ h⟩)
  · exact .inr h
theorem Same.sqV {t : Bool} {K : PySem.W.Frag} {H H' : Hp} {a : Addr} {xs : List V} (e : Same H H') (h : SqV t K H a xs) : SqV t K H' a xs := by
  cases t
  · exact Same.seq e h
  · exact Same.sqT e h
theorem Same.new {H : Hp} {a : Addr} {o : HO} (h : H a = none) : Same H (upd H a o) := fun b u e => by rw [upd_ne (ne_of_none e h)]; exact e
theorem Same.put {H H' : Hp} {a : Addr} {o : HO} (s : Same H H') (h : H a = none) : Same H (upd H' a o) := fun b u e => by rw [upd_ne (ne_of_none e h)]; exact s b u e
theorem take_zipWith {α β γ : Type} (f : α → β → γ) : ∀ (xs : List α) (ys : List β) (i : Nat) (x : α) (y : β), xs[i]? = some x → ys[i]? = some y → (List.zipWith f xs ys).take (i + 1) = (List.zipWith f xs ys).take i ++ [f x y] := by
  intro xs ys i x y hx hy
  rw [List.take_succ, List.getElem?_zipWith, hx, hy]
  rfl
theorem take_map {α β : Type} (f : α → β) (xs : List α) (i : Nat) (x : α) (hx : xs[i]? = some x) : (xs.map f).take (i + 1) = (xs.map f).take i ++ [f x] := by
  rw [List.take_succ, List.getElem?_map, hx]
  rfl
/-- [te for a in xs] -/
theorem comp_tup {K : PySem.W.Frag} {a : Addr} {xs : List V} {te : TE} {Q : VK} {rest : St} {src : List (Option Nat)} {σ : St} {H0 : Hp} (f : V → V) (hσ : srcSt src σ = none :: rest) (hx : SqT K H0 a xs) (hl : xs.length ≤ sizeLine)
    (he : ∀ (i : Nat) x H (R : VK), xs[i]? = some x → Same H0 H → R (f x) H → te (some x :: rest) H R)
    (hd : ∀ acc H, H0 acc = none → Same H0 H → H acc = some (.lst (xs.map f)) → Q (.ref acc) H) :
    CompEnd (Itt K a) src (gName 0) tYes te σ H0 Q := by
  intro acc hacc
  rw [hσ]
  have hlen : (xs.map f).length = xs.length := List.length_map ..
  refine comp_gen (n := xs.length) (fun i zs σ H => Same H0 H ∧ zs = (xs.map f).take i ∧ ∃ u, σ = u :: rest) (by omega) ⟨Same.new hacc, rfl, none, rfl⟩ ?_ ?_ ?_ ?_
  · rintro i zs σ H hi hz ⟨sm, _⟩
    exact ⟨xs, xs[i], sm.sqT hx, by simp⟩
  · rintro zs σ H hz ⟨sm, _⟩
    exact ⟨xs, sm.sqT hx, Nat.le_refl _⟩
  · rintro i zs σ H x H' hi hz hzl ⟨sm, ez, u, rfl⟩ ⟨rfl, gx⟩
    have hx1 := gx xs (sm.sqT hx)
    show te (some x :: rest) _ _
    refine he i x _ _ hx1 sm ?_
    refine ⟨zs, hz, by omega, zs ++ [f x], upd_same, by rw [List.length_append, List.length_singleton]; omega, sm.put hacc, ?_, _, rfl⟩
    rw [take_map f xs i x hx1, ez]
  · rintro zs σ H hz hzl ⟨sm, ez, _⟩
    refine hd acc H hacc sm ?_
    rw [hz, ez, List.take_of_length_le (by omega)]
theorem comp_by {J : It} {n : Nat} {src : List (Option Nat)} {g : TG} {tt : TT} {te : TE} {Q : VK} {σ σ0 : St} {H0 : Hp} (hσ : srcSt src σ = σ0) (Pv : Addr → Nat → List V → St → Hp → Prop) (hn : n ≤ sizeLine) (h0 : ∀ acc, H0 acc = none → Pv acc 0 [] σ0 (upd H0 acc (.lst [])))
    (hgo : ∀ acc i zs σ H, H0 acc = none → i < n → H acc = some (.lst zs) → Pv acc i zs σ H → J.go i H)
    (hst : ∀ acc zs σ H, H0 acc = none → H acc = some (.lst zs) → Pv acc n zs σ H → J.stop n H)
    (hs : ∀ acc i zs σ H x H', H0 acc = none → i < n → H acc = some (.lst zs) → zs.length ≤ i → Pv acc i zs σ H → J.yld i H x H' → g x σ H' fun σ2 H2 => tt σ2 H2 fun b H3 =>
      if b = true then te σ2 H3 fun y H4 => ∃ ys, H4 acc = some (.lst ys) ∧ ys.length < sizeLine ∧ ∃ zs, (upd H4 acc (.lst (ys ++ [y]))) acc = some (.lst zs) ∧ zs.length ≤ i + 1 ∧ Pv acc (i + 1) zs σ2 (upd H4 acc (.lst (ys ++ [y])))
      else ∃ zs, H3 acc = some (.lst zs) ∧ zs.length ≤ i + 1 ∧ Pv acc (i + 1) zs σ2 H3)
    (hd : ∀ acc zs σ H, H0 acc = none → H acc = some (.lst zs) → zs.length ≤ n → Pv acc n zs σ H → Q (.ref acc) H) : CompEnd J src g tt te σ H0 Q := by
  intro acc hacc
  rw [hσ]
  exact comp_gen (Pv acc) hn (h0 acc hacc) (fun i zs σ H => hgo acc i zs σ H hacc) (fun zs σ H => hst acc zs σ H hacc) (fun i zs σ H x H' => hs acc i zs σ H x H' hacc) (fun zs σ H => hd acc zs σ H hacc)
/-! ### the rules with the fragment named -/
theorem pg_nm {X : Cx} {i : Nat} {x : Str} {pos : Pos} (hN : X.N.Nodup) (hi : X.N[i]? = some x) (hx : X.env.scope.names.lookup x = some .local) : PG X (.Name x pos) (gName i) := pg_name hN hi (.inl hx) (.inr hx)
section
variable {X : Cx} (K : PySem.W.Frag) {p pos : Pos} {e e2 : Expr} {es : List Expr} {t : TA} {te te2 : TE}
theorem pg_pair {i j : Nat} {x y : Str} {p1 p2 pos : Pos} {k : Nat} (hK : X.K = K) (hc : X.calm = true) (hN : X.N.Nodup) (hi : X.N[i]? = some x) (hj : X.N[j]? = some y) (hx : X.env.scope.names.lookup x = some .local) (hy : X.env.scope.names.lookup y = some .local) :
    PG X (.Tuple [.Name x p1, .Name y p2] k pos) (gTup K 2 (gCons (gName i) (gCons (gName j) gNil))) := by
  subst hK
  exact pg_tup hc (pgs_cons (pg_nm hN hi hx) (pgs_cons (pg_nm hN hj hy) pgs_nil))
theorem kix_list (hK : X.K = K) : IxR X (rIxL K) := hK ▸ ix_list
theorem kix_tup (hK : X.K = K) : IxR X (rIxT K) := hK ▸ ix_tup
theorem ksl_list (hK : X.K = K) : SlR X (rSlL K) := hK ▸ sl_list
theorem ksl_tup (hK : X.K = K) : SlR X (rSlT K) := hK ▸ sl_tup
theorem keqD (hK : X.K = K) (hu : X.A.units + 64 < cLine) : OpR X (compareOp .Eq) (rEqD K) := hK ▸ op_eqD hu
theorem kneD (hK : X.K = K) (hu : X.A.units + 64 < cLine) : OpR X (compareOp .NotEq) (rNeD K) := hK ▸ op_neD hu
theorem kpi_list {tg : Expr} (hK : X.K = K) (hl : PE X e te) : PI X tg e (iList K te) := hK ▸ pi_list hl
theorem kpi_tup {tg : Expr} (hK : X.K = K) (hl : PE X e te) : PI X tg e (iTup K te) := hK ▸ pi_tup hl
theorem kpi_zip (t1 t2 : Bool) {es : List Expr} {ek : Nat} {ep : Pos} {a b : Expr} {ta : TA} (hK : X.K = K) (hg : Gl X "zip") (hm : X.mg "zip" = none) (ha : PA X [a, b] ta) (hs : starEach [a, b] X.env = [(false, eval a X.env), (false, eval b X.env)] := by rfl) (hs2 : starEach [b] X.env = [(false, eval b X.env)] := by rfl) :
    PI X (.Tuple es ek ep) (.Call (.Name "zip" p) [a, b] [] pos) (iZip t1 t2 K ta) := hK ▸ pi_zip t1 t2 hg hm ha hs hs2
def rLen (K : PySem.W.Frag) : List V → Hp → VK → Prop := fun xs H Q => ∃ p ys, xs = [.ref p] ∧ (SqL K H p ys ∨ SqT K H p ys) ∧ Q (.int ys.length) H
def rAll (b : Bool) (K : PySem.W.Frag) : List V → Hp → VK → Prop := fun xs H Q => ∃ (p : Addr) (bs : List Bool), xs = [.ref p] ∧ SqV b K H p (bs.map V.bl) ∧ Q (.bl (bs.all id)) H
def rSum (b : Bool) (K : PySem.W.Frag) : List V → Hp → VK → Prop := fun xs H Q => ∃ (p : Addr) (ns : List Int), xs = [.ref p] ∧ SqV b K H p (ns.map V.int) ∧ Q (.int ns.sum) H
def rTuple (K : PySem.W.Frag) : List V → Hp → VK → Prop := fun xs H Q => ∃ p ys, xs = [.ref p] ∧ SqL K H p ys ∧ ∀ l, H l = none → Q (.ref l) (upd H l (.tup ys))
theorem kpl_len (T : Blt X.mg) (ha : PE X e te) (hK : X.K = K := by rfl) (hg : Gl X "len" := by rfl) (hs : starEach [e] X.env = [(false, eval e X.env)] := by rfl) : PE X (.Call (.Name "len" p) [e] [] pos) (tCB (rLen K) (tCons te tNil)) := by
  subst hK; exact pl_len T ha hg hs
theorem kpl_all (T : Blt X.mg) (ha : PE X e te) (b : Bool) (hK : X.K = K := by rfl) (hc : X.calm = true := by rfl) (hg : Gl X "all" := by rfl) (hs : starEach [e] X.env = [(false, eval e X.env)] := by rfl) : PE X (.Call (.Name "all" p) [e] [] pos) (tCB (rAll b K) (tCons te tNil)) := by
  subst hK; exact pl_all T ha b hc hg hs
theorem kpl_sum (T : Blt X.mg) (ha : PE X e te) (b : Bool) (hK : X.K = K := by rfl) (hc : X.calm = true := by rfl) (hg : Gl X "sum" := by rfl) (hs : starEach [e] X.env = [(false, eval e X.env)] := by rfl) : PE X (.Call (.Name "sum" p) [e] [] pos) (tCB (rSum b K) (tCons te tNil)) := by
  subst hK; exact pl_sum T ha b hc hg hs
theorem kpl_tuple (T : Blt X.mg) (ha : PE X e te) (hK : X.K = K := by rfl) (hg : Gl X "tuple" := by rfl) (hs : starEach [e] X.env = [(false, eval e X.env)] := by rfl) : PE X (.Call (.Name "tuple" p) [e] [] pos) (tCB (rTuple K) (tCons te tNil)) := by
  subst hK; exact pl_tuple T ha hg hs
theorem kpl_is {cn : Str} {c : String} {p2 : Pos} (T : Blt X.mg) (ha : PE X e te) (hm : X.mg cn = none) (hv : bootBuiltins cn = some (.type c)) (hK : X.K = K := by rfl) (hg : Gl X "isinstance" := by rfl) (hg2 : Gl X cn := by rfl) (hn : cn ≠ "__name__" := by decide) (hd : (cn == ("__debug__" : Str)) = false := by decide)
    (he : starEach [e, .Name cn p2] X.env = (false, eval e X.env) :: starEach [.Name cn p2] X.env := by rfl) (he2 : starEach [.Name cn p2] X.env = [(false, eval (.Name cn p2) X.env)] := by rfl) :
    PE X (.Call (.Name "isinstance" p) [e, .Name cn p2] [] pos) (tCB (rIsM K) (tCons te (tCons (tC (.ty c)) tNil))) := by
  subst hK; exact pl_is T ha hm hv hg hg2 hn hd he he2
end
end L2

namespace L2
open PySem PySem.Spec PyProof.Rows
section
variable {X : Cx} (K : PySem.W.Frag) {p pos : Pos} {e e2 : Expr} {es : List Expr} {t : TA} {te te2 : TE}
/-- t + u of tuples, whichever is empty -/
def rCatH : R2 := fun x y H Q => ∃ a b xs ys, x = .ref a ∧ y = .ref b ∧ H a = some (.tup xs) ∧ H b = some (.tup ys) ∧ xs.length + ys.length ≤ sizeLine ∧ ∀ q H', Same H H' → H' q = some (.tup (xs ++ ys)) → Q (.ref q) H'
theorem op_catH : OpR X (binaryOp .Add) rCatH := by
  intro pins s σ H x y v u Q I rx ry h
  obtain ⟨a, b, xs, ys, rfl, rfl, ha, hb, hz, q⟩ := h
  by_cases hx : xs = []
  · subst hx
    cases rx
    cases ry
    obtain ⟨its, r1, p1, _⟩ := I.tuple (SqT.of ha)
    obtain ⟨its2, r2, p2, _⟩ := I.tuple (SqT.of hb)
    obtain ⟨⟨cls, dd, data, sl⟩, ho, hc, n, hd⟩ := id p1
    obtain ⟨⟨cls2, dd2, data2, sl2⟩, ho2, hc2, n2, hd2⟩ := id p2
    simp only at hc hd hc2 hd2
    subst hc hd hc2 hd2
    have hv : its = [] := r1.nil_iff.mpr rfl
    exact concat_meets ⟨_, ho, rfl⟩ ⟨_, ho2, rfl⟩ noFill_tuple_add seq_tuple_add PySem.F.slot_tuple_add PySem.F.entry_tuple_add (PySem.F.args_tuple_add_2 _ _)
      (tuple_addW0 a b its.toArray its2.toArray n n2 dd dd2 sl sl2 (by simp [hv])) ⟨ho, ho2, .ref b, H, I.tok s.toks, rfl, q b H (Same.refl H) (by simpa using hb)⟩
  · refine op_catT pins s σ H (.ref a) (.ref b) v u Q I rx ry ⟨a, b, xs, ys, rfl, rfl, SqT.of ha, SqT.of hb, hx, hz, fun hy => ?_, fun _ l hl => q l _ (Same.new hl) upd_same⟩
    subst hy
    exact q a H (Same.refl H) (by simpa using ha)
def rListT (K : PySem.W.Frag) : List V → Hp → VK → Prop := fun xs H Q => ∃ p ys, xs = [.ref p] ∧ (SqL K H p ys ∨ SqT K H p ys) ∧ ∀ l, H l = none → Q (.ref l) (upd H l (.lst ys))
theorem kpl_list (T : Blt X.mg) (ha : PE X e te) (hK : X.K = K := by rfl) (hg : Gl X "list" := by rfl) (hs : starEach [e] X.env = [(false, eval e X.env)] := by rfl) : PE X (.Call (.Name "list" p) [e] [] pos) (tCB (rListT K) (tCons te tNil)) := by
  subst hK; exact pe_callTy call_list_of hg T.list boot_list' (pa_cons ha pa_nil hs) (by decide) (by decide) hs
end
/-- types stay -/
theorem TyOf.same {K : PySem.W.Frag} {H H' : Hp} {x : V} {t : Value} (s : Same H H') (h : TyOf K H x t) : TyOf K H' x t := by
  cases h with
  | non => exact .non
  | bl b => exact .bl b
  | int i => exact .int i
  | str x => exact .str x
  | flt x => exact .flt x
  | lst e => exact .lst (s _ _ e)
  | frz e => exact .frz (s _ _ e)
  | tup e => exact .tup (s _ _ e)
  | dK e => exact .dK (s _ _ e)
  | dT e => exact .dT (s _ _ e)
  | ins e cl ha hn htk hm => exact .ins (s _ _ e) cl ha hn htk hm
/-- a cut behind a statement -/
theorem seq_cut {t u : TS} {D : Ends} {σ : St} {H : Hp} (M : St → Hp → Prop) (h1 : ∀ R : St → Hp → Prop, (∀ σ' H', M σ' H' → R σ' H') → t { D with nx := R } σ H) (h2 : ∀ σ' H', M σ' H' → u D σ' H') : tSeq t u D σ H := h1 (u D) h2
theorem set_cut {i : Nat} {x : V} {t u : TS} {D : Ends} {σ : St} {H : Hp} (M : St → Hp → Prop) (h1 : ∀ R : St → Hp → Prop, (∀ σ' H', M σ' H' → R σ' H') → t { D with nx := R } (σ.set i (some x)) H) (h2 : ∀ σ' H', M σ' H' → u D σ' H') : gName i x σ H (tSeq t u D) := h1 (u D) h2
end L2

namespace L2
open PySem PySem.Spec PyProof.Rows
/-! ### the order of tuples -/
section
open PySem.SeqAt
open PySem.AutoSeq1 (wpAny_loadPart')
open PySem.MeetsSeq PySem.MeetsSeq2 PySem.MeetsSeq3
def RcO (op : CmpOp) (A : Around) (s : Shared) (y x : Value) (b : Bool) : Prop :=
  ∀ (prog : Program) (w : World) (E : Value → Shared → Prop) (Q : Value → Shared → Prop), Q (.bool b) s → wpAny (model prog w) A (richCompare op y x) Q E s
inductive Cmps (op : CmpOp) (A : Around) (s : Shared) : List Value → List Value → List (Bool × Bool) → Prop
  | nil (ws : List Value) : Cmps op A s [] ws []
  | nilr (vs : List Value) : Cmps op A s vs [] []
  | cons {v w : Value} {e r : Bool} {vs ws : List Value} {ks : List (Bool × Bool)} : EqAt A s v w e → (e = false → RcO op A s v w r) → Cmps op A s vs ws ks → Cmps op A s (v :: vs) (w :: ws) ((e, r) :: ks)
def goOp : List (Bool × Bool) → Bool → Bool
  | [], f => f
  | (true, _) :: r, f => goOp r f
  | (false, b) :: _, _ => b

theorem tuple_gtAt (l b : Addr) (items items2 : Array Value) (n n2 : Nat) (dd dd2 : Option Addr) (sl sl2 : Array (Option Value)) (ks : List (Bool × Bool)) :
    Meets (Builtin.«tuple.__gt__» ⟨[.ref l, .ref b], []⟩)
      (fun A R s => s.heap.get? l = some { cls := .type "tuple", dict := dd, data := .seq items n, slots := sl } ∧ s.heap.get? b = some { cls := .type "tuple", dict := dd2, data := .seq items2 n2, slots := sl2 } ∧
        Cmps .Gt A.in1 s items.toList items2.toList ks ∧ R (.ok (.ret (.bool (goOp ks (decide (items.size > items2.size)))))) s) :=
  .of_wp fun prog w A R s h => by
    obtain ⟨hp, g, d, tk, os⟩ := s; obtain ⟨hl, hb, hc, h⟩ := h
    have f2 := AutoSeq1.sub_tuple_tuple
    wp_walk using wpAny_loadPart' hl, wpAny_loadPart' hb, wpAny_forIn_list _ (fun rest b s' => b.1 = none ∧ s' = ⟨hp, g, d, tk, os⟩ ∧ ∃ (vs ws : List Value) (ks' : List (Bool × Bool)), rest = vs.zip ws ∧
      Cmps .Gt A.in1 ⟨hp, g, d, tk, os⟩ vs ws ks' ∧ R (.ok (.ret (.bool (goOp ks' (decide (items.size > items2.size)))))) ⟨hp, g, d, tk, os⟩) _
    case turn =>
      rintro ⟨y, x⟩ rest b s' ⟨hb', rfl, vs, ws, ks', hz, hk, hR⟩
      cases hk with
      | nil => rw [List.zip_nil_left] at hz; cases hz
      | nilr => rw [List.zip_nil_right] at hz; cases hz
      | @cons v w' e r vs' ws' ks'' he hr hk' =>
        rw [List.zip_cons_cons] at hz
        injection hz with hyx hrest
        injection hyx with hy hx
        subst hy hx
        refine wpAny_bind (he prog w _ _ ?_)
        cases e with
        | true =>
          wp_walk
          exact ⟨rfl, rfl, _, _, _, hrest, hk', hR⟩
        | false =>
          have hri := hr rfl prog w
          wp_walk using hri
          exact ⟨_, rfl, hR⟩
    case fin =>
      rintro ⟨b1, b2⟩ s' ⟨hb', rfl, vs, ws, ks', hz, hk, hR⟩
      simp only at hb'
      subst hb'
      have hks : ks' = [] := by
        cases hk with
        | nil => rfl
        | nilr => rfl
        | cons he hr hk' => rw [List.zip_cons_cons] at hz; cases hz
      subst hks
      wp_walk
      exact ⟨_, rfl, by simpa [Builtin.Tuple.tupleCompareSizes, goOp] using hR⟩
    case h =>
      exact ⟨rfl, rfl, items.toList, items2.toList, ks, rfl, hc, h⟩
theorem rc_gt {A : Around} {s : Shared} {l b : Addr} {items items2 : Array Value} {ks : List (Bool × Bool)} (hl : s.heap.IsTuple l items) (hb : s.heap.IsTuple b items2) (hu : A.units < cLine) (hk : Cmps .Gt A.in1 s items.toList items2.toList ks) :
    RcO .Gt A s (.ref l) (.ref b) (goOp ks (decide (items.size > items2.size))) := fun prog w E Q h => by
  obtain ⟨⟨cls, dd, data, sl⟩, ho, hc, n, hd⟩ := id hl
  obtain ⟨⟨cls2, dd2, data2, sl2⟩, ho2, hc2, n2, hd2⟩ := id hb
  simp only at hc hd hc2 hd2
  subst hc hd hc2 hd2
  exact richCompare_meets_room (op := .Gt) ⟨_, ho, rfl⟩ ⟨_, ho2, rfl⟩ PySem.F.slot_tuple_gt PySem.F.entry_tuple_gt (PySem.F.args_tuple_gt_2 _ _) (tuple_gtAt l b items items2 n n2 dd dd2 sl sl2 ks)
    ⟨ho, ho2, hk, show Value.bool _ ≠ Value.notImplemented ∧ Q (.bool _) s from ⟨(fun x => nomatch x), h⟩⟩ hu


end
end L2

namespace L2
open PySem PySem.Spec PyProof.Rows
/-- the verdict over two lists of ints -/
def lexV (f : Int → Int → Bool) (fin : Bool) (ns ms : List Int) : Bool := goOp (List.zipWith (fun a b => (a == b, f a b)) ns ms) fin
def gtI (a b : Int) : Bool := decide (b < a)
def lexGt (ns ms : List Int) : Bool := lexV gtI (decide (ns.length > ms.length)) ns ms
def hgt (m : Int) (ns : List Int) (n : Int) (ms : List Int) : Bool := if m = n then (if ns = ms then false else lexGt ns ms) else gtI m n
theorem rcGt_int (A : Around) (s : Shared) (a : Int) (t : Tok) (c : Int) (u : Tok) : RcO .Gt A s (.int a t) (.int c u) (gtI a c) := fun prog w E Q h =>
  (PyProof.Rows.gt_int h : wpAny (model prog w) A (compareOp .Gt (.int a t) (.int c u)) Q E s)
theorem cmps_ints {op : CmpOp} {A : Around} {s : Shared} {f : Int → Int → Bool} (hf : ∀ a t c u, RcO op A s (.int a t) (.int c u) (f a c)) : ∀ {ns ms : List Int} {us ws : List Value}, Vals (ns.map V.int) us → Vals (ms.map V.int) ws →
    Cmps op A s us ws (List.zipWith (fun a b => (a == b, f a b)) ns ms)
  | [], _, _, ws, .nil, _ => .nil ws
  | _ :: _, [], us, _, _, .nil => .nilr us
  | n :: ns, m :: ms, _, _, .cons r rr, .cons q qq => by
    obtain ⟨t, rfl⟩ := (show ∃ t, _ = Value.int n t from r)
    obtain ⟨u, rfl⟩ := (show ∃ t, _ = Value.int m t from q)
    exact .cons (SeqAt.EqAt.int_int n t m u) (fun _ => hf n t m u) (cmps_ints hf rr qq)
theorem ints_inj : ∀ {ns ms : List Int}, ns.map V.int = ms.map V.int → ns = ms
  | [], [], _ => rfl
  | [], _ :: _, h => by cases h
  | _ :: _, [], h => by cases h
  | n :: ns, m :: ms, h => by
    rw [List.map_cons, List.map_cons] at h
    injection h with h1 h2
    injection h1 with h1
    rw [h1, ints_inj h2]
theorem in1_units {k : Nat} {A : Around} (hr : Room (k + 1) A) : A.in1.units + 64 < cLine := hr.in1.units
section
variable {X : Cx} {K : PySem.W.Frag}
/-- (m, t) > (n, u) -/
def rGtP (K : PySem.W.Frag) : R2 := fun x y H Q => ∃ (a b ta tb : Addr) (m n : Int) (ns ms : List Int), x = .ref a ∧ y = .ref b ∧ SqT K H a [.int m, .ref ta] ∧ SqT K H b [.int n, .ref tb] ∧ SqT K H ta (ns.map V.int) ∧ SqT K H tb (ms.map V.int) ∧ Q (.bl (hgt m ns n ms)) H
theorem kgtP {k : Nat} (hK : X.K = K) (hr : Room (k + 2) X.A) : OpR X (compareOp .Gt) (rGtP K) := by
  subst hK
  intro pins s σ H x y v u Q I rx ry h
  obtain ⟨a, b, ta, tb, m, n, ns, ms, rfl, rfl, ha, hb, hta, htb, q⟩ := h
  cases rx
  cases ry
  obtain ⟨its, r1, p1, _⟩ := I.tuple ha
  obtain ⟨its2, r2, p2, _⟩ := I.tuple hb
  obtain ⟨jts, r3, p3, _⟩ := I.tuple hta
  obtain ⟨jts2, r4, p4, _⟩ := I.tuple htb
  have e3 := r3.length
  have e4 := r4.length
  rw [List.length_map] at e3 e4
  obtain ⟨u1, u2, rfl, q1, q2⟩ := vals2 r1
  obtain ⟨w1, w2, rfl, q3, q4⟩ := vals2 r2
  obtain ⟨t1, rfl⟩ := (show ∃ t, u1 = Value.int m t from q1)
  obtain ⟨t3, rfl⟩ := (show ∃ t, w1 = Value.int n t from q3)
  cases (show u2 = Value.ref ta from q2)
  cases (show w2 = Value.ref tb from q4)
  have hu1 : X.A.in1.units < cLine := by have := in1_units (k := k + 1) hr; omega
  have hu2 := in1_units (k := k + 1) hr
  have eqr : SeqAt.EqAt X.A.in1 s (.ref ta) (.ref tb) (decide (ns = ms)) := by
    by_cases hab : ta = tb
    · subst hab
      have e := I.tuple_inj hta htb
      have e' : ns = ms := ints_inj e
      rw [decide_eq_true e']
      exact SeqAt.EqAt.same _
    · refine SeqAt.EqAt.of_refs hab fun prog w E Q' hq => ?_
      obtain ⟨as, ra⟩ := (dr_ints hta).reads I rfl
      obtain ⟨bs, rb⟩ := (dr_ints htb).reads I rfl
      exact eq_dataH ra rb (shaped_ints _) (shaped_ints _) hu2 (by rw [eqv_ints]; exact hq)
  have gt2 : RcO .Gt X.A.in1 s (.ref ta) (.ref tb) (lexGt ns ms) := by
    have z := rc_gt (show s.heap.IsTuple ta jts.toArray from p3) (show s.heap.IsTuple tb jts2.toArray from p4) hu1 (cmps_ints (ns := ns) (ms := ms) (fun _ _ _ _ => rcGt_int _ _ _ _ _ _) (by simpa using r3) (by simpa using r4))
    rw [List.size_toArray, List.size_toArray, ← e3, ← e4] at z
    exact z
  have ck : Cmps .Gt X.A.in1 s [.int m t1, .ref ta] [.int n t3, .ref tb] [(m == n, gtI m n), (decide (ns = ms), lexGt ns ms)] :=
    .cons (SeqAt.EqAt.int_int m t1 n t3) (fun _ => rcGt_int _ _ _ _ _ _) (.cons eqr (fun _ => gt2) (.nil _))
  refine rc_gt (show s.heap.IsTuple a _ from p1) (show s.heap.IsTuple b _ from p2) hr.units0 ck X.prog X.w _ _ ⟨.bl (hgt m ns n ms), H, I, ?_, q⟩
  show Value.bool _ = Value.bool _
  congr 1
  unfold hgt
  by_cases h1 : m = n
  · rw [if_pos h1, show (m == n) = true by simpa using h1]
    by_cases h2 : ns = ms
    · rw [if_pos h2, decide_eq_true h2]
      rfl
    · rw [if_neg h2, decide_eq_false h2]
      rfl
  · rw [if_neg h1, show (m == n) = false by simpa using h1]
    rfl
end
end L2

namespace L2
open PySem PySem.Spec PyProof.Rows
/-! ### enumerate -/
end L2

namespace L2
open PySem PySem.Spec PyProof.Rows
/-! ### own classes: a class without __init__, methods and makers as words, a choice of two readings -/
def tOrE (t1 t2 : TE) : TE := fun σ H Q => t1 σ H Q ∨ t2 σ H Q
def tMk0 (C : Addr) : TE := fun σ H Q => ∀ x dx, H x = none → H dx = none → dx ≠ x → Q (.ref x) (upd (upd H dx (.own x)) x (.ins C dx []))
section
variable {X : Cx} {C : Addr} {x : Str} {p pos apos : Pos} {e o : Expr} {es : List Expr} {te ta t1 t2 : TE} {t : TA}
theorem pe_two (h1 : PE X e t1) (h2 : PE X e t2) : PE X e (tOrE t1 t2) := fun pins s σ H Q I h => h.elim (h1 pins s σ H Q I) (h2 pins s σ H Q I)
structure Mk0 (K : PySem.W.Frag) (C : Addr) : Prop where
  makes : PySem.W.makesIn K C = true
  init : PySem.W.findIn K (.ref C) "__init__" = some (some (.builtin "object.__init__"))
  kp : PySem.W.keepIn K (.ref C) = true
theorem pe_mk0 (M : Mk0 X.K C) (hm : X.mg x = some (.ref C)) (hg : Gl X x := by rfl) (hdb : (x == ("__debug__" : Str)) = false := by decide) : PE X (.Call (.Name x p) [] [] pos) (tMk0 C) := by
  intro pins s σ H Q I h
  refine wpAny_Call_Name_kw (ld_glob I hg hm ?_ hdb)
  have hq := h (s.heap.objs.size + 1) s.heap.objs.size (I.hok.fresh (Nat.le_succ _)) (I.hok.fresh (Nat.le_refl _)) (Nat.ne_of_lt (Nat.lt_succ_self _))
  have I2 := Inv.made (C := C) I
  refine PySem.W.callWith_K0 I.kIn M.kp (wpAny_call (make_map0 I.kIn M.makes M.init (fun self => PySem.W.Looks.of_pure (PySem.W.oi_bind self)) ?_))
  have Y := PySem.W.makes_of (M := model X.prog X.w) I.kIn M.makes
  have hx : ((s.heap.push PySem.W.emptyDict).push (PySem.W.instObj C s.heap.objs.size)).get? (s.heap.objs.size + 1) = some (PySem.W.instObj C s.heap.objs.size) := by
    have := Heap.get?_push_size (s.heap.push PySem.W.emptyDict) (o := PySem.W.instObj C s.heap.objs.size) rfl
    rwa [Heap.size_push] at this
  have y1 : PySem.W.Looks (model X.prog X.w) ((s.heap.push PySem.W.emptyDict).push (PySem.W.instObj C s.heap.objs.size)) (typeOf (.ref (s.heap.objs.size + 1))) (.ref C) := (PySem.W.Looks.ld hx).andThen .now
  have y2 : PySem.W.Looks (model X.prog X.w) ((s.heap.push PySem.W.emptyDict).push (PySem.W.instObj C s.heap.objs.size)) (isInstance (.ref (s.heap.objs.size + 1)) (.type "object")) true := y1.andThen (Y.top.keeps fun b o e => Heap.get?_push_of_some _ (Heap.get?_push_of_some _ e))
  obtain ⟨hh, g, d, tk, os⟩ := s
  refine codeAny_call_builtin PySem.W.oi_plain PySem.W.entry_oi (@PySem.W.check_slot (model X.prog X.w) _ _ _ "object.__init__" "object" "__init__" (.ref (hh.objs.size + 1)) [] [] _ PySem.W.oi_kind PySem.W.oi_split y2 (PySem.W.oi_args (.ref (hh.objs.size + 1))) ?_)
  rw [PySem.W.oi_run]
  exact wpAny_pure (And.intro rfl ⟨V.ref (hh.objs.size + 1), _, I2, rfl, hq⟩)
end
/-- a method's word -/
structure MtB (P : Program) (w : World) (K : PySem.W.Frag) (mg : Str → Option Value) (base : Heap) (k : Nat) (C : Addr) (m : Str) (sp : Sp) : Prop where
  ex : ∃ f fd ps, FnOk P w K mg base CX0 k f fd ps sp ∧ Meth K C m f ∧ Binds K fd ps []
  cl : Cls K C
/-- a maker's word -/
structure MkB (P : Program) (w : World) (K : PySem.W.Frag) (mg : Str → Option Value) (base : Heap) (k : Nat) (C : Addr) (x : Str) (sp : Sp) : Prop where
  ex : ∃ f fd ps, FnOk P w K mg base CX0 k f fd ps sp ∧ Mk K C f ∧ Binds K fd ps []
  at_ : mg x = some (.ref C)
section
variable {X : Cx} {C : Addr} {x m : Str} {k : Nat} {sp : Sp} {p pos apos : Pos} {e o : Expr} {es : List Expr} {te ta : TE} {t : TA}
theorem pe_mt {pl : Sem Bool} (M : MtB X.prog X.w X.K X.mg X.base k C m sp) (hr : Room k X.A) (he : PE X o ta) (ha : PA X (e :: es) t)
    (hst : starEach (e :: es) X.env = (false, eval e X.env) :: starEach es X.env := by rfl) (hpl : (backTo pos (starEach es X.env)).any (·.1) = false := by rfl)
    (ht : eval (.Call (.Attribute o m apos) (e :: es) [] pos) X.env = (do
      let ov ← eval o X.env
      standAt apos.atName
      let (f, first) ← holding [ov] (getMethod ov m pl)
      callWith pos f first (backTo pos (starEach (e :: es) X.env)) (backToKw pos (keywordEach [] X.env))) := by rfl) :
    PE X (.Call (.Attribute o m apos) (e :: es) [] pos) (tMeth C m sp [] E0 ta t) := by
  obtain ⟨f, fd, ps, F, hm, hb⟩ := M.ex
  exact pe_meth he M.cl hm F hr hb .nil pass0 ha hst hpl ht
theorem pe_mkB (M : MkB X.prog X.w X.K X.mg X.base k C x sp) (hr : Room (k + 1) X.A) (ha : PA X (e :: es) t) (hg : Gl X x := by rfl) (hdb : (x == ("__debug__" : Str)) = false := by decide)
    (he : starEach (e :: es) X.env = (false, eval e X.env) :: starEach es X.env := by rfl) (hpl : (backTo pos (starEach es X.env)).any (·.1) = false := by rfl) :
    PE X (.Call (.Name x p) (e :: es) [] pos) (tMake C sp [] E0 t) := by
  obtain ⟨f, fd, ps, F, hm, hb⟩ := M.ex
  exact pe_make hm F hr hg M.at_ hb .nil pass0 ha hdb he hpl
end
end L2

namespace L2
/-! ### fractions in lowest terms -/
def nrm (a b : Int) : Int × Int := if b < 0 then (a.fdiv (-(Int.gcd a b : Int)), b.fdiv (-(Int.gcd a b : Int))) else (a.fdiv (Int.gcd a b : Int), b.fdiv (Int.gcd a b : Int))
theorem nrm_ex (a b : Int) (h : b ≠ 0) : ∃ (g : Nat) (a' b' : Int), 0 < g ∧ Int.gcd a b = g ∧ a = g * a' ∧ b = g * b' ∧ Int.gcd a' b' = 1 ∧ nrm a b = (if b < 0 then (-a', -b') else (a', b')) := by
  have hg : 0 < Int.gcd a b := Int.gcd_pos_of_ne_zero_right a h
  obtain ⟨a', ha⟩ := Int.gcd_dvd_left (a := a) (b := b)
  obtain ⟨b', hb⟩ := Int.gcd_dvd_right (a := a) (b := b)
  have hg0 : (Int.gcd a b : Int) ≠ 0 := by omega
  refine ⟨Int.gcd a b, a', b', hg, rfl, ha, hb, ?_, ?_⟩
  · have e : Int.gcd (Int.gcd a b * a') (Int.gcd a b * b') = Int.gcd a b * Int.gcd a' b' := by
      rw [Int.gcd_mul_left]; rfl
    rw [← ha, ← hb] at e
    have : Int.gcd a b * 1 = Int.gcd a b * Int.gcd a' b' := by omega
    exact (Nat.eq_of_mul_eq_mul_left hg this).symm
  · unfold nrm
    generalize hG : (Int.gcd a b : Int) = G at *
    have f1 : a.fdiv G = a' := by rw [ha]; exact Int.mul_fdiv_cancel_left _ hg0
    have f2 : b.fdiv G = b' := by rw [hb]; exact Int.mul_fdiv_cancel_left _ hg0
    have f3 : a.fdiv (-G) = -a' := by rw [ha, show G * a' = (-G) * (-a') by rw [Int.neg_mul_neg]]; exact Int.mul_fdiv_cancel_left _ (by omega)
    have f4 : b.fdiv (-G) = -b' := by rw [hb, show G * b' = (-G) * (-b') by rw [Int.neg_mul_neg]]; exact Int.mul_fdiv_cancel_left _ (by omega)
    rw [f1, f2, f3, f4]
theorem nrm_pos (a b : Int) (h : b ≠ 0) : 0 < (nrm a b).2 := by
  obtain ⟨g, a', b', hg, _, ha, hb, _, e⟩ := nrm_ex a b h
  rw [e]
  by_cases hb0 : b < 0
  · rw [if_pos hb0]
    show 0 < -b'
    have : ¬ 0 ≤ b' := fun z => by have := Int.mul_nonneg (show (0 : Int) ≤ g by omega) z; omega
    omega
  · rw [if_neg hb0]
    show 0 < b'
    have : ¬ b' ≤ 0 := fun z => by have := Int.mul_nonneg (show (0 : Int) ≤ g by omega) (show 0 ≤ -b' by omega); rw [Int.mul_neg] at this; omega
    omega
theorem nrm_cop (a b : Int) (h : b ≠ 0) : Int.gcd (nrm a b).1 (nrm a b).2 = 1 := by
  obtain ⟨g, a', b', hg, _, ha, hb, c, e⟩ := nrm_ex a b h
  rw [e]
  split
  · show Int.gcd (-a') (-b') = 1
    rw [Int.neg_gcd, Int.gcd_neg]
    exact c
  · exact c
theorem natAbs_le_mul (g : Nat) (x : Int) (hg : 0 < g) : x.natAbs ≤ ((g : Int) * x).natAbs := by
  rw [Int.natAbs_mul, Int.natAbs_natCast]
  exact Nat.le_mul_of_pos_left _ hg
theorem nrm_le (a b : Int) (h : b ≠ 0) : (nrm a b).1.natAbs ≤ a.natAbs ∧ (nrm a b).2.natAbs ≤ b.natAbs := by
  obtain ⟨g, a', b', hg, _, ha, hb, c, e⟩ := nrm_ex a b h
  have h1 := natAbs_le_mul g a' hg
  have h2 := natAbs_le_mul g b' hg
  rw [← ha] at h1
  rw [← hb] at h2
  rw [e]
  split
  · exact ⟨by show (-a').natAbs ≤ _; omega, by show (-b').natAbs ≤ _; omega⟩
  · exact ⟨h1, h2⟩
theorem nrm_self (a b : Int) (h : 0 < b) : nrm a b = (a, b) ↔ Int.gcd a b = 1 := by
  obtain ⟨g, a', b', hg, eg, ha, hb, c, e⟩ := nrm_ex a b (by omega)
  constructor
  · intro z
    have := nrm_cop a b (by omega)
    rw [z] at this
    exact this
  · intro z
    rw [z] at eg
    subst eg
    rw [e, if_neg (by omega)]
    rw [show a' = a by omega, show b' = b by omega]
end L2

namespace L2
open PySem PySem.Spec PyProof.Rows
/-- [te for a in xs], a list -/
theorem comp_lst {K : PySem.W.Frag} {a : Addr} {xs : List V} {te : TE} {Q : VK} {rest : St} {src : List (Option Nat)} {σ : St} {H0 : Hp} (f : V → V) (hσ : srcSt src σ = none :: rest) (hx : SqL K H0 a xs) (hl : xs.length ≤ sizeLine)
    (he : ∀ (i : Nat) x H (R : VK), xs[i]? = some x → Same H0 H → R (f x) H → te (some x :: rest) H R)
    (hd : ∀ acc H, H0 acc = none → Same H0 H → H acc = some (.lst (xs.map f)) → Q (.ref acc) H) :
    CompEnd (Itl K a) src (gName 0) tYes te σ H0 Q := by
  intro acc hacc
  rw [hσ]
  have hlen : (xs.map f).length = xs.length := List.length_map ..
  refine comp_gen (n := xs.length) (fun i zs σ H => Same H0 H ∧ zs = (xs.map f).take i ∧ ∃ u, σ = u :: rest) (by omega) ⟨Same.new hacc, rfl, none, rfl⟩ ?_ ?_ ?_ ?_
  · rintro i zs σ H hi hz ⟨sm, _⟩
    exact ⟨xs, xs[i], sm.seq hx, by simp⟩
  · rintro zs σ H hz ⟨sm, _⟩
    exact ⟨xs, sm.seq hx, Nat.le_refl _⟩
  · rintro i zs σ H x H' hi hz hzl ⟨sm, ez, u, rfl⟩ ⟨rfl, gx⟩
    have hx1 := gx xs (sm.seq hx)
    show te (some x :: rest) _ _
    refine he i x _ _ hx1 sm ?_
    refine ⟨zs, hz, by omega, zs ++ [f x], upd_same, by rw [List.length_append, List.length_singleton]; omega, sm.put hacc, ?_, _, rfl⟩
    rw [take_map f xs i x hx1, ez]
  · rintro zs σ H hz hzl ⟨sm, ez, _⟩
    refine hd acc H hacc sm ?_
    rw [hz, ez, List.take_of_length_le (by omega)]
end L2

set_option exponentiation.threshold 5000
namespace L2
open PySem PySem.Spec PyProof.Rows
/-! ### numbers of the two kinds as pairs (rests: over 1) -/
def addN (P : Int) (x y : Int × Int) : Int × Int := if P = 0 then nrm (x.1 * y.2 + y.1 * x.2) (x.2 * y.2) else ((x.1 + y.1) % P, 1)
def subN (P : Int) (x y : Int × Int) : Int × Int := if P = 0 then nrm (x.1 * y.2 - y.1 * x.2) (x.2 * y.2) else ((x.1 - y.1) % P, 1)
def mulN (P : Int) (x y : Int × Int) : Int × Int := if P = 0 then nrm (x.1 * y.1) (x.2 * y.2) else ((x.1 * y.1) % P, 1)
def OkN (P : Int) (x : Int × Int) : Prop := (P = 0 ∧ 0 < x.2 ∧ Int.gcd x.1 x.2 = 1) ∨ (P ≠ 0 ∧ 0 ≤ x.1 ∧ x.1 < P ∧ x.2 = 1)
theorem okN_nrm {a b : Int} (h : b ≠ 0) : OkN 0 (nrm a b) := .inl ⟨rfl, nrm_pos a b h, nrm_cop a b h⟩
theorem okN_mod {P a : Int} (h : 0 ≤ P) (h0 : P ≠ 0) : OkN P (a % P, 1) := .inr ⟨h0, Int.emod_nonneg a h0, Int.emod_lt_of_pos a (by omega), rfl⟩
theorem OkN.den {P : Int} {x : Int × Int} (h : OkN P x) : 0 < x.2 := by
  rcases h with ⟨_, h, _⟩ | ⟨_, _, _, h⟩ <;> omega
theorem den_mul {x y : Int × Int} (h1 : 0 < x.2) (h2 : 0 < y.2) : x.2 * y.2 ≠ 0 := fun z => by have := Int.mul_pos h1 h2; omega
theorem okN_add {P : Int} {x y : Int × Int} (hP : 0 ≤ P) (h1 : OkN P x) (h2 : OkN P y) : OkN P (addN P x y) := by
  unfold addN
  split
  · rename_i h; subst h; exact okN_nrm (den_mul h1.den h2.den)
  · exact okN_mod hP ‹_›
theorem okN_zero {P : Int} (hP : 0 ≤ P) (h2 : P ≠ 1) : OkN P (0, 1) := by
  by_cases h : P = 0
  · exact .inl ⟨h, by decide, by decide⟩
  · exact .inr ⟨h, by decide, by show (0 : Int) < P; omega, rfl⟩
/-! sizes -/
def Sz (k : Nat) (x : Int × Int) : Prop := x.1.natAbs < 2 ^ k ∧ x.2.natAbs < 2 ^ k
theorem sz_mul {a b : Int} {i j : Nat} (h1 : a.natAbs < 2 ^ i) (h2 : b.natAbs < 2 ^ j) : (a * b).natAbs < 2 ^ (i + j) := by
  rw [Int.natAbs_mul, Nat.pow_add]
  exact Nat.mul_lt_mul'' h1 h2
theorem sz_add {a b : Int} {k : Nat} (h1 : a.natAbs < 2 ^ k) (h2 : b.natAbs < 2 ^ k) : (a + b).natAbs < 2 ^ (k + 1) ∧ (a - b).natAbs < 2 ^ (k + 1) := by
  rw [Nat.pow_succ]
  omega
theorem pow_le2 {i j : Nat} (h : i ≤ j) : 2 ^ i ≤ 2 ^ j := Nat.pow_le_pow_right (by decide) h
theorem Sz.mono {i j : Nat} {x : Int × Int} (h : Sz i x) (hij : i ≤ j) : Sz j x := ⟨Nat.lt_of_lt_of_le h.1 (pow_le2 hij), Nat.lt_of_lt_of_le h.2 (pow_le2 hij)⟩
theorem sz_nrm {a b : Int} {k : Nat} (hb : b ≠ 0) (h1 : a.natAbs < 2 ^ k) (h2 : b.natAbs < 2 ^ k) : Sz k (nrm a b) := ⟨Nat.lt_of_le_of_lt (nrm_le a b hb).1 h1, Nat.lt_of_le_of_lt (nrm_le a b hb).2 h2⟩
theorem sz_mod {P a : Int} (h : 0 ≤ P) (h0 : P ≠ 0) (h9 : P ≤ 9973) {k : Nat} (hk : 14 ≤ k) : Sz k (a % P, 1) := by
  have h1 := Int.emod_nonneg a h0
  have h2 := Int.emod_lt_of_pos a (show 0 < P by omega)
  have h3 : 2 ^ 14 ≤ 2 ^ k := pow_le2 hk
  exact ⟨by show (a % P).natAbs < 2 ^ k; omega, by show (1 : Int).natAbs < 2 ^ k; omega⟩
theorem sz_addN {P : Int} {x y : Int × Int} {i j : Nat} (hP : 0 ≤ P) (h9 : P ≤ 9973) (o1 : OkN P x) (o2 : OkN P y) (h1 : Sz i x) (h2 : Sz j y) (hi : 14 ≤ i) : Sz (i + j + 1) (addN P x y) ∧ Sz (i + j + 1) (subN P x y) ∧ Sz (i + j + 1) (mulN P x y) := by
  have d := den_mul o1.den o2.den
  have m1 := sz_mul h1.1 h2.2
  have m2 := sz_mul h2.1 h1.2
  rw [Nat.add_comm j i] at m2
  have m3 := sz_mul h1.2 h2.2
  have m4 := sz_mul h1.1 h2.1
  have a := sz_add m1 m2
  have le : 2 ^ (i + j) ≤ 2 ^ (i + j + 1) := pow_le2 (by omega)
  refine ⟨?_, ?_, ?_⟩
  · unfold addN
    split
    · exact sz_nrm d a.1 (by omega)
    · exact sz_mod hP ‹_› h9 (by omega)
  · unfold subN
    split
    · exact sz_nrm d a.2 (by omega)
    · exact sz_mod hP ‹_› h9 (by omega)
  · unfold mulN
    split
    · exact sz_nrm d (by omega) (by omega)
    · exact sz_mod hP ‹_› h9 (by omega)
/-! ### a def with defaults, called with all its arguments -/
structure FunD (K : PySem.W.Frag) (x qual : Str) (st : Stmt) (f : Addr) (fd : FuncData) : Prop where
  ex : ∃ (oc : Value) (od : Option Addr) (dV kV doc pm : Value) (an : Option Addr) (cdv ct : Value) (osl : Array (Option Value)),
    fd = PySem.W.fnOf x qual (defArgs st) (defBody st) (defScope st) dV kV doc pm an cdv ct ∧ K.lookup f = some ⟨oc, od, .func fd, osl⟩ ∧ PySem.W.codeIn K cdv qual = true
  kp : PySem.W.keepIn K (.ref f) = true
section
variable {P : Program} {w : World} {K : PySem.W.Frag} {mg : Str → Option Value} {base : Heap}
theorem funD_mk {x qual : Str} {st : Stmt} {f : Addr} {oc : Value} {od an : Option Addr} {osl : Array (Option Value)} {dV kV doc pm cdv ct : Value} (l : K.lookup f = some ⟨oc, od, .func (PySem.W.fnOf x qual (defArgs st) (defBody st) (defScope st) dV kV doc pm an cdv ct), osl⟩)
    (c : PySem.W.codeIn K cdv qual = true) (k : PySem.W.keepIn K (.ref f) = true) : FunD K x qual st f (PySem.W.fnOf x qual (defArgs st) (defBody st) (defScope st) dV kV doc pm an cdv ct) := ⟨⟨oc, od, dV, kV, doc, pm, an, cdv, ct, osl, rfl, l, c⟩, k⟩
end
/-- [te for a in xs], a list; each turn may lay new things -/
theorem comp_lstS {K : PySem.W.Frag} {a : Addr} {xs : List V} {te : TE} {Q : VK} {rest : St} {src : List (Option Nat)} {σ : St} {H0 : Hp} (f : V → V) (hσ : srcSt src σ = none :: rest) (hx : SqL K H0 a xs) (hl : xs.length ≤ sizeLine)
    (he : ∀ (i : Nat) x H (R : VK), xs[i]? = some x → Same H0 H → (∀ H', Same H H' → R (f x) H') → te (some x :: rest) H R)
    (hd : ∀ acc H, H0 acc = none → Same H0 H → H acc = some (.lst (xs.map f)) → Q (.ref acc) H) :
    CompEnd (Itl K a) src (gName 0) tYes te σ H0 Q := by
  intro acc hacc
  rw [hσ]
  have hlen : (xs.map f).length = xs.length := List.length_map ..
  refine comp_gen (n := xs.length) (fun i zs σ H => Same H0 H ∧ zs = (xs.map f).take i ∧ ∃ u, σ = u :: rest) (by omega) ⟨Same.new hacc, rfl, none, rfl⟩ ?_ ?_ ?_ ?_
  · rintro i zs σ H hi hz ⟨sm, _⟩
    exact ⟨xs, xs[i], sm.seq hx, by simp⟩
  · rintro zs σ H hz ⟨sm, _⟩
    exact ⟨xs, sm.seq hx, Nat.le_refl _⟩
  · rintro i zs σ H x H' hi hz hzl ⟨sm, ez, u, rfl⟩ ⟨rfl, gx⟩
    have hx1 := gx xs (sm.seq hx)
    show te (some x :: rest) _ _
    refine he i x _ _ hx1 sm fun H2 s2 => ?_
    refine ⟨zs, s2 _ _ hz, by omega, zs ++ [f x], upd_same, by rw [List.length_append, List.length_singleton]; omega, (sm.trans s2).put hacc, ?_, _, rfl⟩
    rw [take_map f xs i x hx1, ez]
  · rintro zs σ H hz hzl ⟨sm, ez, _⟩
    refine hd acc H hacc sm ?_
    rw [hz, ez, List.take_of_length_le (by omega)]
end L2

namespace L2
open PySem PySem.Spec PyProof.Rows
/-! ### exceptions: raised, passed on, caught -/
/-- how an exception lies behind a call: B holds all that stood at the raise but the frames; H' what is tracked of it -/
structure Fly (P : Program) (w : World) (outer : List Env) (H : Hp) (s : Shared) (x : Addr) (cls : Value) (B : Heap) (H' : Hp) (s' : Shared) : Prop where
  os : s'.os = s.os
  bare : AllBare s'.gens
  fly : ∃ a0, Heap.FlyingW B outer x cls a0 s'.heap
  keep : ∀ b o, s.heap.get? b = some o → H b = none → b ∉ frs outer → B.get? b = some o
  there : ∀ b o, s.heap.get? b = some o → b ∉ frs outer → ∃ o', B.get? b = some o'
  slot : ∀ b o, s.heap.get? b = some o → b ∈ frs outer → ∃ sl, s'.heap.get? b = some { o with slots := sl }
  free : ∀ b o, s.heap.get? b = some o → H b = none → H' b = none
  tups : ∀ b xs, H b = some (.tup xs) → H' b = some (.tup xs)
  frzs : ∀ b o u, H b = some (.frz o u) → H' b = some (.frz o u)
  tbls : ∀ b ps, H b = some (.tbl ps) → ∃ more, H' b = some (.tbl (ps ++ more))
  hok : HOk P w H' B
def CXE (P : Program) (w : World) : CXT := fun outer H s E e s' => ∃ x cls B H', e = .ref x ∧ Fly P w outer H s x cls B H' s' ∧ E cls none H'
theorem passE0 {X : Cx} {P : Program} {w : World} : Passes (CXE P w) X E0 := fun _ _ _ _ _ _ _ ⟨_, _, _, _, _, _, z⟩ => z.elim
section
variable {P : Program} {w : World} {K : PySem.W.Frag} {mg : Str → Option Value} {base : Heap} {N : List Str} {qual : Str} {scope : Scope} {f : Addr} {cd : Value} {A : Around} {outer : List Env} {s₀ s : Shared} {H₀ H : Hp} {E : XK} {pins : List (Addr × Obj)} {σ : St}
/-- an exception is made and leaves the def -/
theorem xe_raise {h' : Heap} {e : Addr} {cls : Value} {args : List Value} (I : Inv (cxOf (CXE P w) P w K mg base N qual scope f cd A outer s₀ H₀ E) pins σ H s) (hx : Heap.MadeExcOf s.heap h' e cls args) (q : E cls none H) :
    (cxOf (CXE P w) P w K mg base N qual scope f cd A outer s₀ H₀ E).xe (.ref e) { s with heap := h' } := by
  show wpAny (model P w) (A.deeper (envOfC qual scope s₀.heap.objs.size f cd)) (leaving (envOfC qual scope s₀.heap.objs.size f cd) (.ref e)) (fun _ s'' => CXE P w outer H₀ s₀ E (.ref e) s'') (fun e' s'' => CXE P w outer H₀ s₀ E e' s'') { s with heap := h' }
  have hst : s.heap.FunFrames base (envOfC qual scope s₀.heap.objs.size f cd :: outer) := I.stack
  have noEx : ∀ b : Addr, b ∉ (cxOf (CXE P w) P w K mg base N qual scope f cd A outer s₀ H₀ E).ex := fun b z => absurd (show b ∈ ([] : List Addr) from z) (by simp)
  have nL : ∀ b o, s₀.heap.get? b = some o → b ∉ frs outer → b ∉ frs (envOfC qual scope s₀.heap.objs.size f cd :: outer) := fun b o e1 hb hm => by
    rcases List.mem_cons.mp (I.stkSub b hm) with z | z
    · have hlt := Heap.lt_size e1
      rw [show b = s₀.heap.objs.size from z] at hlt
      exact absurd hlt (Nat.lt_irrefl _)
    · exact hb z
  refine wpAny_leaves_madeW (base := PySem.W.hideAll s.heap (frs (envOfC qual scope s₀.heap.objs.size f cd :: outer))) (h := s.heap) I.ok.frames rfl (fun b o z => PySem.W.of_hideAll _ z)
    (PySem.W.funFrames_hide hst fun env he a ha => List.mem_filterMap.mpr ⟨env, he, ha⟩) hx fun h'' t fl _ _ up => ?_
  refine ⟨e, cls, _, H, rfl, ⟨I.os, I.bare, ⟨_, fl⟩, fun b o e1 n hb => ?_, fun b o e1 hb => ?_, fun b o e1 hb => ?_, fun b o e1 n => I.base.free b o e1 n (noEx b), I.base.tups, I.base.frzs, I.base.tbls, fun a ob ea => ?_⟩, q⟩
  · exact PySem.W.hideAll_get _ (I.base.keep b o e1 n hb (noEx b)) (nL b o e1 hb)
  · obtain ⟨o', e2⟩ := I.base.there b o e1 (noEx b)
    exact ⟨o', PySem.W.hideAll_get _ e2 (nL b o e1 hb)⟩
  · obtain ⟨sl, e2⟩ := I.base.slot b o e1 (I.ok.frf b hb) hb (noEx b)
    obtain ⟨_, o3, e3, hd⟩ := I.ok.funs.mem hb
    have e1' : (cxOf (CXE P w) P w K mg base N qual scope f cd A outer s₀ H₀ E).s₀.heap.get? b = some o := e1
    rw [e1'] at e3
    cases e3
    obtain ⟨sl2, e4⟩ := up b _ (hx.keeps b _ e2) hd
    exact ⟨sl2, e4⟩
  · refine (I.hok a ob ea).stay (fun b u hb e2 => PySem.W.hideAll_get _ e2 fun hm => ?_) (fun _ z => z) fun _ _ z => z
    have hn := I.stkFree b hm
    rcases hb with z | z
    · rw [z, ea] at hn; cases hn
    · rw [z] at hn; cases hn
/-- a callee's exception leaves the def, too -/
theorem passes_on : Passes (CXE P w) (cxOf (CXE P w) P w K mg base N qual scope f cd A outer s₀ H₀ E) E := by
  intro pins σ H s e s' I hx
  obtain ⟨x, cls, B, H', rfl, F, q⟩ := hx
  show wpAny (model P w) (A.deeper (envOfC qual scope s₀.heap.objs.size f cd)) (leaving (envOfC qual scope s₀.heap.objs.size f cd) (.ref x)) (fun _ s'' => CXE P w outer H₀ s₀ E (.ref x) s'') (fun e' s'' => CXE P w outer H₀ s₀ E e' s'') s'
  have noEx : ∀ b : Addr, b ∉ (cxOf (CXE P w) P w K mg base N qual scope f cd A outer s₀ H₀ E).ex := fun b z => absurd (show b ∈ ([] : List Addr) from z) (by simp)
  have nL : ∀ b o, s₀.heap.get? b = some o → b ∉ frs outer → b ∉ frs (envOfC qual scope s₀.heap.objs.size f cd :: outer) := fun b o e1 hb hm => by
    rcases List.mem_cons.mp (I.stkSub b hm) with z | z
    · have hlt := Heap.lt_size e1
      rw [show b = s₀.heap.objs.size from z] at hlt
      exact absurd hlt (Nat.lt_irrefl _)
    · exact hb z
  obtain ⟨a0, fl⟩ := F.fly
  refine wpAny_leaves_onW (base := B) I.ok.frames rfl fl fun h'' fl2 up => ?_
  refine ⟨x, cls, B, H', rfl, ⟨F.os.trans I.os, F.bare, ⟨_, fl2⟩, fun b o e1 n hb => ?_, fun b o e1 hb => ?_, fun b o e1 hb => ?_, fun b o e1 n => ?_, fun b xs e1 => F.tups b xs (I.base.tups b xs e1), fun b o u e1 => F.frzs b o u (I.base.frzs b o u e1), fun b ps e1 => ?_, F.hok⟩, q⟩
  · exact F.keep b o (I.base.keep b o e1 n hb (noEx b)) (I.base.free b o e1 n (noEx b)) (nL b o e1 hb)
  · obtain ⟨o', e2⟩ := I.base.there b o e1 (noEx b)
    exact F.there b o' e2 (nL b o e1 hb)
  · obtain ⟨sl, e2⟩ := I.base.slot b o e1 (I.ok.frf b hb) hb (noEx b)
    obtain ⟨_, o3, e3, hd⟩ := I.ok.funs.mem hb
    have e1' : (cxOf (CXE P w) P w K mg base N qual scope f cd A outer s₀ H₀ E).s₀.heap.get? b = some o := e1
    rw [e1'] at e3
    cases e3
    have hb' : b ∈ frs (envOfC qual scope s₀.heap.objs.size f cd :: outer) := by
      obtain ⟨env, he, hf⟩ := List.mem_filterMap.mp hb
      exact List.mem_filterMap.mpr ⟨env, List.mem_cons_of_mem _ he, hf⟩
    obtain ⟨sl2, e4⟩ := F.slot b _ e2 hb'
    obtain ⟨sl3, e5⟩ := up b _ e4 hd
    exact ⟨sl3, e5⟩
  · obtain ⟨o', e2⟩ := I.base.there b o e1 (noEx b)
    exact F.free b o' e2 (I.base.free b o e1 n (noEx b))
  · obtain ⟨m1, e2⟩ := I.base.tbls b ps e1
    obtain ⟨m2, e3⟩ := F.tbls b _ e2
    exact ⟨m1 ++ m2, by rw [e3, Array.append_assoc]⟩
end
end L2

namespace L2
open PySem PySem.Spec PyProof.Rows
/-! ### own exceptions under ValueError: raised -/
abbrev veTail : List Value := [.type "ValueError", .type "Exception", .type "BaseException", .type "object"]
abbrev ExcK (K : PySem.W.Frag) (C : Addr) : Prop := PySem.W.excIn K C veTail "ValueError.__new__" = true
theorem exc_obj {K : PySem.W.Frag} {h : Heap} {C : Addr} (X : K.In h) (q : ExcK K C) : ∃ bm N nm qn bs hdct sn sub ab col dd k0 k1 k2 k3 k5 mN,
    h.get? C = some (excClassObj nm qn C N bs bm hdct sn sub ab col dd k0 k1 k2 k3 k5 "ValueError.__new__") ∧ h.Ns N mN ∧ mN "__init__" = none ∧ OwnTail h veTail bm := by
  have q' := q
  unfold ExcK PySem.W.excIn at q'
  cases hl : K.lookup C with
  | none => rw [hl] at q'; cases q'
  | some ob =>
    rw [hl] at q'
    obtain ⟨oc, od, oda, osl⟩ := ob
    split at q'
    · rename_i dz cz sz heq
      cases heq
      split at q'
      · rename_i Cz bz z0 z1 z2 z3 nz z5 hm hs
        rw [Bool.and_eq_true, Bool.and_eq_true, Bool.and_eq_true, Bool.and_eq_true, Bool.and_eq_true] at q'
        obtain ⟨⟨⟨⟨⟨w1, w2⟩, w3⟩, w4⟩, w5⟩, w6⟩ := q'
        obtain ⟨c1, c2, c3, c4, c5, c6, c7, c8, c9, c10, c11⟩ := cz
        have e1 := beq_iff_eq.mp w1
        have e2 := beq_iff_eq.mp w2
        have e6 := beq_iff_eq.mp w6
        have e3 : c11 = false := by simpa using w3
        have em : c3 = .ref Cz :: bz := hm
        subst e1 e2 e3 em
        have es : osl = #[z0, z1, z2, z3, some (.builtin "ValueError.__new__"), z5] := by
          cases osl
          simp only at hs
          rw [hs]
        subst es
        exact ⟨bz, _, _, _, _, _, _, _, _, _, _, _, _, _, _, _, _, X _ _ hl, .of_isNs (PySem.W.isNs_of_in X w5), PySem.W.nsMap_none_of_in X w5 e6, PySem.W.tail_of_in X w4⟩
      · cases q'
    · cases q'
def tRaise (E : XK) (C : Addr) (t : TA) : TS := fun _ σ H => t σ H fun vs H1 => vs.length ≤ sizeLine ∧ E (.ref C) none H1
section
variable {P : Program} {w : World} {K : PySem.W.Frag} {mg : Str → Option Value} {base : Heap} {N : List Str} {qual : Str} {scope : Scope} {f : Addr} {cd : Value} {A : Around} {outer : List Env} {s₀ : Shared} {H₀ : Hp} {E : XK}
theorem ps_raise {C : Addr} {x : Str} {np cpos pos : Pos} {e₀ : Expr} {es : List Expr} {t : TA} (hC : ExcK K C) (hm : mg x = some (.ref C)) (ha : PA (cxOf (CXE P w) P w K mg base N qual scope f cd A outer s₀ H₀ E) (e₀ :: es) t)
    (hg : Gl (cxOf (CXE P w) P w K mg base N qual scope f cd A outer s₀ H₀ E) x := by rfl) (hd : (x == ("__debug__" : Str)) = false := by decide)
    (he : starEach (e₀ :: es) (cxOf (CXE P w) P w K mg base N qual scope f cd A outer s₀ H₀ E).env = (false, eval e₀ (cxOf (CXE P w) P w K mg base N qual scope f cd A outer s₀ H₀ E).env) :: starEach es (cxOf (CXE P w) P w K mg base N qual scope f cd A outer s₀ H₀ E).env := by rfl)
    (hpl : (backTo cpos (starEach es (cxOf (CXE P w) P w K mg base N qual scope f cd A outer s₀ H₀ E).env)).any (·.1) = false := by rfl) :
    PS (cxOf (CXE P w) P w K mg base N qual scope f cd A outer s₀ H₀ E) (.Raise (some (.Call (.Name x np) (e₀ :: es) [] cpos)) none pos) (tRaise E C t) := by
  intro pins s σ H D I h
  obtain ⟨bm, Nn, nm, qn, bs, hdct, sn, sub, ab, col, dd, k0, k1, k2, k3, k5, mN, hCo, hN, hni, T⟩ := exc_obj I.mod.kin hC
  have any0 : (backTo cpos (starEach (e₀ :: es) (cxOf (CXE P w) P w K mg base N qual scope f cd A outer s₀ H₀ E).env)).any (·.1) = false := by
    rw [he]
    show (false || (backTo cpos (starEach es _)).any (·.1)) = false
    rw [hpl]; rfl
  refine wpAny_Raise_call_subU (C := C) (nm := nm) (q := qn) (N := Nn) (bs := bs) (bm := bm) (hdct := hdct) (sn := sn) (sub := sub) (ab := ab) (col := col) (dd := dd) (k0 := k0) (k1 := k1) (k2 := k2) (k3 := k3) (k5 := k5)
    PySem.F.excBase_ValueError (bmB := veTail) (by decide +kernel) PySem.F.excBase_ValueError (mN := mN) (T.hasType PySem.F.excBase_ValueError.hasBase) (I.ok.hd rfl) any0 hni (ld_glob I hg hm ⟨rfl, ?_⟩ hd)
  have a1 := ha cpos pins s σ H _ I h
  rw [he] at a1 ⊢
  refine Calls.evalArgs_plain (wpAny_mono a1 (fun us s2 z => ?_) fun _ _ z => z)
  obtain ⟨vs, H2, I2, r, hlen, q⟩ := z
  exact ⟨rfl, by rw [← r.length]; exact hlen, I2.bk _ _ hCo, hN.keeps I2.bk, T.keeps I2.bk, fun h' e mk => xe_raise I2 mk q⟩
end
/-! a def that may raise -/
section
variable {P : Program} {w : World} {K : PySem.W.Frag} {mg : Str → Option Value} {base : Heap}
theorem Fun.okX {x qual : Str} {st : Stmt} {f : Addr} {fd : FuncData} {N ps : List Str} {k : Nat} {sp : Sp} (F : Fun K x qual st f fd) (S : FnScope N ps (defScope st)) (len : ∀ vs H Q E, sp vs H Q E → vs.length = ps.length)
    (hbody : ∀ (cdv : Value) (A : Around) (outer : List Env) (s : Shared) (H : Hp) (vs : List V) (Q : VK) (E : XK), Room k (A.deeper (envOfC qual (defScope st) s.heap.objs.size f cdv)) → sp vs H Q E →
      ∃ t, PSs (cxOf (CXE P w) P w K mg base N qual (defScope st) f cdv A outer s H E) (defBody st) t ∧ t { nx := fun _ H' => Q .non H', rt := Q } (start N vs) H) : FnOk P w K mg base (CXE P w) (k + 1) f fd ps sp := by
  obtain ⟨oc, od, kV, doc, pm, an, cdv, ct, osl, rfl, lk, hcd⟩ := F.ex
  exact fn_of lk hcd S len fun A outer s H vs Q E hr hsp => hbody cdv A outer s H vs Q E hr hsp
theorem FunD.okX {x qual : Str} {st : Stmt} {f : Addr} {fd : FuncData} {N ps : List Str} {k : Nat} {sp : Sp} (F : FunD K x qual st f fd) (S : FnScope N ps (defScope st)) (len : ∀ vs H Q E, sp vs H Q E → vs.length = ps.length)
    (hbody : ∀ (cdv : Value) (A : Around) (outer : List Env) (s : Shared) (H : Hp) (vs : List V) (Q : VK) (E : XK), Room k (A.deeper (envOfC qual (defScope st) s.heap.objs.size f cdv)) → sp vs H Q E →
      ∃ t, PSs (cxOf (CXE P w) P w K mg base N qual (defScope st) f cdv A outer s H E) (defBody st) t ∧ t { nx := fun _ H' => Q .non H', rt := Q } (start N vs) H) : FnOk P w K mg base (CXE P w) (k + 1) f fd ps sp := by
  obtain ⟨oc, od, dV, kV, doc, pm, an, cdv, ct, osl, rfl, lk, hcd⟩ := F.ex
  exact fn_of lk hcd S len fun A outer s H vs Q E hr hsp => hbody cdv A outer s H vs Q E hr hsp
end
structure FnBX (P : Program) (w : World) (K : PySem.W.Frag) (mg : Str → Option Value) (base : Heap) (k : Nat) (x : Str) (sp : Sp) : Prop where
  ex : ∃ f fd ps, FnOk P w K mg base (CXE P w) k f fd ps sp ∧ mg x = some (.ref f) ∧ PySem.W.keepIn K (.ref f) = true ∧ Binds K fd ps []
structure MtBX (P : Program) (w : World) (K : PySem.W.Frag) (mg : Str → Option Value) (base : Heap) (k : Nat) (C : Addr) (m : Str) (dvs : List V) (sp : Sp) : Prop where
  ex : ∃ f fd ps ds, FnOk P w K mg base (CXE P w) k f fd ps sp ∧ Meth K C m f ∧ Binds K fd ps ds ∧ Vals dvs ds
  cl : Cls K C
structure MkBX (P : Program) (w : World) (K : PySem.W.Frag) (mg : Str → Option Value) (base : Heap) (k : Nat) (C : Addr) (x : Str) (sp : Sp) : Prop where
  ex : ∃ f fd ps, FnOk P w K mg base (CXE P w) k f fd ps sp ∧ Mk K C f ∧ Binds K fd ps []
  at_ : mg x = some (.ref C)
section
variable {X : Cx} {C : Addr} {x m : Str} {k : Nat} {sp : Sp} {dvs : List V} {p pos apos : Pos} {e o : Expr} {es : List Expr} {te ta : TE} {t : TA} {E : XK}
/-- called where exceptions go as E wants -/
theorem pe_fnX (F : FnBX X.prog X.w X.K X.mg X.base k x sp) (hr : Room k X.A) (hx : Passes (CXE X.prog X.w) X E) (ha : PA X (e :: es) t) (hg : Gl X x := by rfl) (hdb : (x == ("__debug__" : Str)) = false := by decide)
    (he : starEach (e :: es) X.env = (false, eval e X.env) :: starEach es X.env := by rfl) (hpl : (backTo pos (starEach es X.env)).any (·.1) = false := by rfl) :
    PE X (.Call (.Name x p) (e :: es) [] pos) (tCall sp [] E t) := by
  obtain ⟨f, fd, ps, F, hm, hk, hb⟩ := F.ex
  exact pe_call F hr hg hm hk hb .nil hx ha hdb he hpl
theorem pe_mtX {pl : Sem Bool} (M : MtBX X.prog X.w X.K X.mg X.base k C m dvs sp) (hr : Room k X.A) (hx : Passes (CXE X.prog X.w) X E) (he : PE X o ta) (ha : PA X (e :: es) t)
    (hst : starEach (e :: es) X.env = (false, eval e X.env) :: starEach es X.env := by rfl) (hpl : (backTo pos (starEach es X.env)).any (·.1) = false := by rfl)
    (ht : eval (.Call (.Attribute o m apos) (e :: es) [] pos) X.env = (do
      let ov ← eval o X.env
      standAt apos.atName
      let (f, first) ← holding [ov] (getMethod ov m pl)
      callWith pos f first (backTo pos (starEach (e :: es) X.env)) (backToKw pos (keywordEach [] X.env))) := by rfl) :
    PE X (.Call (.Attribute o m apos) (e :: es) [] pos) (tMeth C m sp dvs E ta t) := by
  obtain ⟨f, fd, ps, ds, F, hm, hb, hv⟩ := M.ex
  exact pe_meth he M.cl hm F hr hb hv hx ha hst hpl ht
theorem pe_mkX (M : MkBX X.prog X.w X.K X.mg X.base k C x sp) (hr : Room (k + 1) X.A) (hx : Passes (CXE X.prog X.w) X E) (ha : PA X (e :: es) t) (hg : Gl X x := by rfl) (hdb : (x == ("__debug__" : Str)) = false := by decide)
    (he : starEach (e :: es) X.env = (false, eval e X.env) :: starEach es X.env := by rfl) (hpl : (backTo pos (starEach es X.env)).any (·.1) = false := by rfl) :
    PE X (.Call (.Name x p) (e :: es) [] pos) (tMake C sp [] E t) := by
  obtain ⟨f, fd, ps, F, hm, hb⟩ := M.ex
  exact pe_make hm F hr hg M.at_ hb .nil hx ha hdb he hpl
end
end L2

namespace L2
open PySem PySem.Spec PyProof.Rows
/-! ### try: one call, its exception caught by name -/
section
variable {X : Cx} {C : Addr} {x m : Str} {k : Nat} {sp : Sp} {dvs : List V} {ds : List Value} {p pos apos : Pos} {e o : Expr} {es : List Expr} {te ta : TE} {t : TA} {E : XK} {f : Addr} {fd : FuncData} {ps : List Str}
end
section
variable {X : Cx} {pins : List (Addr × Obj)} {σ : St} {H H1 H' : Hp} {s s1 s' : Shared} {x C : Addr} {cls : Value} {B h : Heap}
end
end L2

namespace L2
open PySem PySem.Spec PyProof.Rows
/-! ### isinstance of a caught exception -/
structure XCl (K : PySem.W.Frag) (D : Addr) : Prop where
  ek : ExcK K D
  ga : PySem.W.findIn K (.ref D) "__getattribute__" = some (some (.builtin "BaseException.__getattribute__"))
  gt : PySem.W.findIn K (.ref D) "__getattr__" = some none
  ca : PySem.W.findIn K (.ref D) "__class__" = some (some (.builtin "object.__class__"))
  mo : PySem.W.mroIn K D (.type "object") = some true
  mb : PySem.W.mroIn K D (.type "BaseException") = some true
  dg : PySem.W.specialIn K (.builtin "object.__class__") "__get__" = some (some (.builtin "getset_descriptor.__get__"))
  dt : PySem.W.takesIn K (.builtin "object.__class__") = some true
section
variable {prog : Program} {w : World} {A : Around} {E : Value → Shared → Prop} {s : Shared} {K : PySem.W.Frag} {x D : Addr}
end
end L2

namespace L2
open PySem PySem.Spec PyProof.Rows
theorem two_of {us : List Value} {d : Value} (h : (us ++ [d]).length = 3) : ∃ a b, us = [a, b] := by
  rw [List.length_append, List.length_singleton] at h
  match us, h with
  | [a, b], _ => exact ⟨a, b, rfl⟩
section
variable {X : Cx} {C : Addr} {x m : Str} {k : Nat} {sp : Sp} {p pos apos : Pos} {e o : Expr} {es : List Expr} {te ta : TE} {t : TA}
/-- o.m() -/
theorem pe_mt0 {pl : Sem Bool} (M : MtB X.prog X.w X.K X.mg X.base k C m sp) (hr : Room k X.A) (he : PE X o ta)
    (ht : eval (.Call (.Attribute o m apos) [] [] pos) X.env = (do
      let ov ← eval o X.env
      standAt apos.atName
      let (f, first) ← holding [ov] (getMethod ov m pl)
      callWith pos f first (backTo pos (starEach [] X.env)) (backToKw pos (keywordEach [] X.env))) := by rfl) :
    PE X (.Call (.Attribute o m apos) [] [] pos) (tMeth C m sp [] E0 ta tNil) := by
  obtain ⟨f, fd, ps, F, hm, hb⟩ := M.ex
  exact pe_meth0 he M.cl hm F hr hb .nil pass0 ht
end
end L2

namespace L2
open PySem PySem.Spec PyProof.Rows
/-! ### defs called within an except suite -/
section
variable {P : Program} {w : World} {K : PySem.W.Frag} {mg : Str → Option Value} {base : Heap}
end
end L2

namespace L2
open PySem PySem.Spec PyProof.Rows
end L2

namespace L2
open PySem PySem.Spec PyProof.Rows PySem.W
/-! ### the sort, its answers given by a total order -/
def ev {α : Type} (c : Nat → Nat → Bool) : KasT α → α
  | .ret a => a
  | .ask i j k => ev c (k (c i j))
theorem ev_bind {α β : Type} {c : Nat → Nat → Bool} {f : α → KasT β} : ∀ t : KasT α, ev c (t.bind f) = ev c (f (ev c t))
  | .ret _ => rfl
  | .ask i j k => ev_bind (k (c i j))
structure Tot (n : Nat) (c : Nat → Nat → Bool) : Prop where
  tr : ∀ i j k, i < n → j < n → k < n → c i j = true → c j k = true → c i k = true
  to : ∀ i j, i < n → j < n → i ≠ j → c i j = false → c j i = true
def Pm (n : Nat) (p : Array Nat) : Prop := p.toList.Perm (List.range n)
section
variable {n : Nat} {c : Nat → Nat → Bool} {p : Array Nat}
theorem Pm.sz (h : Pm n p) : p.size = n := by
  have := h.length_eq
  rw [List.length_range] at this
  rw [← this]; rfl
theorem gd_at {i : Nat} (hi : i < p.size) : p.getD i 0 = p[i] := by simp [Array.getD, hi]
theorem gd_q (p : Array Nat) (i : Nat) : p.getD i 0 = (p[i]?).getD 0 := by simp [Array.getD_eq_getD_getElem?]
theorem Pm.lt (h : Pm n p) {i : Nat} (hi : i < n) : p.getD i 0 < n := by
  have hs := h.sz
  rw [gd_at (by omega)]
  exact List.mem_range.mp (h.mem_iff.mp (by rw [Array.mem_toList_iff]; exact Array.getElem_mem _))
theorem Pm.inj (h : Pm n p) {i j : Nat} (hi : i < n) (hj : j < n) (hne : i ≠ j) : p.getD i 0 ≠ p.getD j 0 := by
  have hs := h.sz
  have nd : p.toList.Nodup := h.nodup_iff.mpr List.nodup_range
  intro z
  rw [gd_at (by omega), gd_at (by omega)] at z
  exact hne ((List.getElem_inj (h₀ := by rw [Array.length_toList]; omega) (h₁ := by rw [Array.length_toList]; omega) nd).mp (by rw [Array.getElem_toList, Array.getElem_toList]; exact z))
theorem Pm.of {q : Array Nat} (h : Pm n p) (e : q.Perm p) : Pm n q := (Array.perm_iff_toList_perm.mp e).trans h
def So (c : Nat → Nat → Bool) (p : Array Nat) (k : Nat) : Prop := ∀ i j, i < j → j < k → c (p.getD i 0) (p.getD j 0) = true
def De (c : Nat → Nat → Bool) (p : Array Nat) (k : Nat) : Prop := ∀ i j, i < j → j < k → c (p.getD j 0) (p.getD i 0) = true
theorem Tot.other (T : Tot n c) (hp : Pm n p) {i j : Nat} (hi : i < n) (hj : j < n) (hne : i ≠ j) (h : ¬ c (p.getD i 0) (p.getD j 0) = true) : c (p.getD j 0) (p.getD i 0) = true :=
  T.to _ _ (hp.lt hi) (hp.lt hj) (hp.inj hi hj hne) (by simpa using h)
theorem Tot.trp (T : Tot n c) (hp : Pm n p) {i j k : Nat} (hi : i < n) (hj : j < n) (hk : k < n) (h1 : c (p.getD i 0) (p.getD j 0) = true) (h2 : c (p.getD j 0) (p.getD k 0) = true) : c (p.getD i 0) (p.getD k 0) = true :=
  T.tr _ _ _ (hp.lt hi) (hp.lt hj) (hp.lt hk) h1 h2
theorem So.step (T : Tot n c) (hp : Pm n p) {m : Nat} (h1 : 1 ≤ m) (hm : m < n) (hs : So c p m) (h : c (p.getD (m - 1) 0) (p.getD m 0) = true) : So c p (m + 1) := fun i j hij hj => by
  by_cases e : j = m
  · subst e
    by_cases e2 : i = j - 1
    · rw [e2]; exact h
    · exact T.trp hp (by omega) (by omega) hm (hs i (j - 1) (by omega) (by omega)) h
  · exact hs i j hij (by omega)
theorem De.step (T : Tot n c) (hp : Pm n p) {m : Nat} (h1 : 1 ≤ m) (hm : m < n) (hs : De c p m) (h : c (p.getD m 0) (p.getD (m - 1) 0) = true) : De c p (m + 1) := fun i j hij hj => by
  by_cases e : j = m
  · subst e
    by_cases e2 : i = j - 1
    · rw [e2]; exact h
    · exact T.trp hp hm (by omega) (by omega) h (hs i (j - 1) (by omega) (by omega))
  · exact hs i j hij (by omega)
theorem ev_asc (T : Tot n c) (hp : Pm n p) : ∀ f m, 1 ≤ m → m + f ≤ n → So c p m → m ≤ ev c (kas_asc p f m) ∧ ev c (kas_asc p f m) ≤ m + f ∧ So c p (ev c (kas_asc p f m)) ∧ (ev c (kas_asc p f m) < m + f → c (p.getD (ev c (kas_asc p f m)) 0) (p.getD (ev c (kas_asc p f m) - 1) 0) = true)
  | 0, m, _, _, hs => ⟨Nat.le_refl _, Nat.le_refl _, hs, fun h => absurd h (Nat.lt_irrefl _)⟩
  | f + 1, m, h1, h2, hs => by
    by_cases hc : c (p.getD m 0) (p.getD (m - 1) 0) = true
    · have e : ev c (kas_asc p (f + 1) m) = m := by
        show ev c (if c (p.getD m 0) (p.getD (m - 1) 0) = true then .ret m else kas_asc p f (m + 1)) = m
        rw [if_pos hc]; rfl
      rw [e]
      exact ⟨Nat.le_refl _, by omega, hs, fun _ => hc⟩
    · have e : ev c (kas_asc p (f + 1) m) = ev c (kas_asc p f (m + 1)) := by
        show ev c (if c (p.getD m 0) (p.getD (m - 1) 0) = true then .ret m else kas_asc p f (m + 1)) = _
        rw [if_neg hc]
      rw [e]
      obtain ⟨a, b, d, g⟩ := ev_asc T hp f (m + 1) (by omega) (by omega) (hs.step T hp h1 (by omega) (T.other hp (by omega) (by omega) (by omega) hc))
      exact ⟨by omega, by omega, d, fun h => g (by omega)⟩
theorem ev_desc (T : Tot n c) (hp : Pm n p) : ∀ f m, 1 ≤ m → m + f ≤ n → De c p m → ∃ r, ev c (kas_desc f p m 0) = (p, r, 0) ∧ m ≤ r ∧ r ≤ m + f ∧ De c p r
  | 0, m, _, _, hs => ⟨m, rfl, Nat.le_refl _, Nat.le_refl _, hs⟩
  | f + 1, m, h1, h2, hs => by
    by_cases hc : c (p.getD m 0) (p.getD (m - 1) 0) = true
    · obtain ⟨r, e, a, b, d⟩ := ev_desc T hp f (m + 1) (by omega) (by omega) (hs.step T hp h1 (by omega) hc)
      refine ⟨r, ?_, by omega, by omega, d⟩
      rw [← e]
      show ev c (if c (p.getD m 0) (p.getD (m - 1) 0) = true then (if 0 > 0 then kas_desc f (kas_rev p (m - (0 + 1)) m) (m + 1) 0 else kas_desc f p (m + 1) 0) else _) = _
      rw [if_pos hc, if_neg (by decide)]
    · refine ⟨m, ?_, Nat.le_refl _, by omega, hs⟩
      have ho := T.other hp (show m < n by omega) (show m - 1 < n by omega) (by omega) hc
      show ev c (if c (p.getD m 0) (p.getD (m - 1) 0) = true then _ else .ask (p.getD (m - 1) 0) (p.getD m 0) fun d => if d = true then .ret (p, m, 0) else kas_desc f p (m + 1) (0 + 1)) = _
      rw [if_neg hc]
      show ev c (if c (p.getD (m - 1) 0) (p.getD m 0) = true then .ret (p, m, 0) else kas_desc f p (m + 1) (0 + 1)) = _
      rw [if_pos ho]
      rfl
theorem gd_rev {j : Nat} (hj : j ≤ p.size) (k : Nat) : (kas_rev p 0 j).getD k 0 = if k < j then p.getD (j - 1 - k) 0 else p.getD k 0 := by
  rw [gd_q]
  unfold kas_rev
  rw [getElem?_mirror_all hj]
  by_cases h : k < j
  · rw [if_pos ⟨Nat.zero_le _, h⟩, if_pos h, gd_q, Nat.zero_add]
  · rw [if_neg (fun z => h z.2), if_neg h, gd_q]
theorem rev_pm (hp : Pm n p) (j : Nat) : Pm n (kas_rev p 0 j) := hp.of (mirror_perm _ _ _ _)
theorem De.rev {k : Nat} (hk : k ≤ p.size) (h : De c p k) : So c (kas_rev p 0 k) k := fun i j hij hj => by
  rw [gd_rev hk, gd_rev hk, if_pos (by omega), if_pos hj]
  exact h (k - 1 - j) (k - 1 - i) (by omega) (by omega)
theorem ev_count (T : Tot n c) (hp : Pm n p) (hn : 1 ≤ n) : ∃ m q, ev c (kas_count n p) = (m, q) ∧ 1 ≤ m ∧ m ≤ n ∧ Pm n q ∧ So c q m := by
  have s1 : So c p 1 := fun i j hij hj => by omega
  obtain ⟨a, b, d, g⟩ := ev_asc T hp (n - 1) 1 (Nat.le_refl _) (by omega) s1
  unfold kas_count
  rw [ev_bind]
  generalize ev c (kas_asc p (n - 1) 1) = r at *
  by_cases h1 : (r == n) = true
  · rw [if_pos h1]
    exact ⟨r, p, rfl, a, by omega, hp, d⟩
  · rw [if_neg h1]
    have hr : r ≠ n := by simpa using h1
    by_cases h2 : r > 1
    · rw [if_pos h2]
      show ∃ m q, ev c (if c (p.getD 0 0) (p.getD (r - 1) 0) = true then .ret (r, p) else _) = (m, q) ∧ _
      rw [if_pos (d 0 (r - 1) (by omega) (by omega))]
      exact ⟨r, p, rfl, a, by omega, hp, d⟩
    · rw [if_neg h2]
      have r1 : r = 1 := by omega
      subst r1
      have d1 : De c p 2 := fun i j hij hj => by
        have : i = 0 ∧ j = 1 := by omega
        rw [this.1, this.2]
        exact g (by omega)
      unfold kas_descPart
      rw [ev_bind]
      obtain ⟨k, e, ka, kb, kd⟩ := ev_desc T hp (n - (1 + 1)) (1 + 1) (by decide) (by omega) d1
      rw [e]
      show ∃ m q, ev c (if 0 > 0 then _ else kas_tail3 k n p) = (m, q) ∧ _
      rw [if_neg (by decide)]
      unfold kas_tail3
      rw [ev_bind]
      have hq := rev_pm hp k
      have sq := De.rev (by rw [hp.sz]; omega) kd
      obtain ⟨a', b', d', _⟩ := ev_asc T hq (n - k) k (by omega) (by omega) sq
      exact ⟨_, _, rfl, by omega, by omega, hq, d'⟩
theorem ev_place (T : Tot n c) (hp : Pm n p) {k : Nat} (hk : k < n) (hs : So c p k) : ∀ f l r, r ≤ l + f → l ≤ r → r ≤ k → (∀ i, i < l → c (p.getD i 0) (p.getD k 0) = true) → (∀ i, r ≤ i → i < k → c (p.getD k 0) (p.getD i 0) = true) →
    ev c (kas_place p k f l r) ≤ k ∧ (∀ i, i < ev c (kas_place p k f l r) → c (p.getD i 0) (p.getD k 0) = true) ∧ (∀ i, ev c (kas_place p k f l r) ≤ i → i < k → c (p.getD k 0) (p.getD i 0) = true)
  | 0, l, r, h1, h2, h3, lo, hi => ⟨by show l ≤ k; omega, lo, fun i hl hik => hi i (by have : l ≤ i := hl; omega) hik⟩
  | f + 1, l, r, h1, h2, h3, lo, hi => by
    by_cases hlr : l ≥ r
    · have e : ev c (kas_place p k (f + 1) l r) = l := by
        show ev c (if l ≥ r then .ret l else _) = l
        rw [if_pos hlr]; rfl
      rw [e]
      exact ⟨by omega, lo, fun i hl hik => hi i (by omega) hik⟩
    · have e : ev c (kas_place p k (f + 1) l r) = ev c (if c (p.getD k 0) (p.getD ((l + r) / 2) 0) = true then kas_place p k f l ((l + r) / 2) else kas_place p k f ((l + r) / 2 + 1) r) := by
        show ev c (if l ≥ r then .ret l else .ask (p.getD k 0) (p.getD ((l + r) / 2) 0) fun d => if d = true then kas_place p k f l ((l + r) / 2) else kas_place p k f ((l + r) / 2 + 1) r) = _
        rw [if_neg hlr]; rfl
      rw [e]
      by_cases hc : c (p.getD k 0) (p.getD ((l + r) / 2) 0) = true
      · rw [if_pos hc]
        refine ev_place T hp hk hs f l ((l + r) / 2) (by omega) (by omega) (by omega) lo fun i hi1 hi2 => ?_
        by_cases ei : i = (l + r) / 2
        · rw [ei]; exact hc
        · exact T.trp hp hk (by omega) (by omega) hc (hs _ i (by omega) hi2)
      · rw [if_neg hc]
        have ho := T.other hp hk (show (l + r) / 2 < n by omega) (by omega) hc
        refine ev_place T hp hk hs f ((l + r) / 2 + 1) r (by omega) (by omega) h3 (fun i hi1 => ?_) hi
        by_cases ei : i = (l + r) / 2
        · rw [ei]; exact ho
        · exact T.trp hp (by omega) (by omega) hk (hs i _ (by omega) (by omega)) ho
theorem gd_bubble {k d : Nat} (hk : k < p.size) (hd : d ≤ k) (x : Nat) : (bubble p k d).getD x 0 = if x = k - d then p.getD k 0 else if k - d < x ∧ x ≤ k then p.getD (x - 1) 0 else p.getD x 0 := by
  rw [gd_q, getElem?_bubble hk d hd]
  by_cases h : x = k - d
  · rw [if_pos h, if_pos h, gd_q]
  · rw [if_neg h, if_neg h]
    by_cases h2 : k - d < x ∧ x ≤ k
    · rw [if_pos h2, if_pos h2, gd_q]
    · rw [if_neg h2, if_neg h2, gd_q]
theorem So.put (hp : Pm n p) {k q : Nat} (hk : k < n) (hq : q ≤ k) (hs : So c p k) (lo : ∀ i, i < q → c (p.getD i 0) (p.getD k 0) = true) (hi : ∀ i, q ≤ i → i < k → c (p.getD k 0) (p.getD i 0) = true) : So c (bubble p k (k - q)) (k + 1) := fun i j hij hj => by
  have hz := hp.sz
  rw [gd_bubble (by omega) (by omega), gd_bubble (by omega) (by omega), show k - (k - q) = q by omega]
  by_cases i1 : i = q
  · rw [if_pos i1, if_neg (by omega), if_pos (by omega)]
    exact hi (j - 1) (by omega) (by omega)
  · rw [if_neg i1]
    by_cases i2 : q < i ∧ i ≤ k
    · rw [if_pos i2, if_neg (by omega), if_pos (by omega)]
      exact hs _ _ (by omega) (by omega)
    · rw [if_neg i2]
      by_cases j1 : j = q
      · rw [if_pos j1]
        exact lo i (by omega)
      · rw [if_neg j1]
        by_cases j2 : q < j ∧ j ≤ k
        · rw [if_pos j2]
          exact hs _ _ (by omega) (by omega)
        · rw [if_neg j2]
          exact hs _ _ hij (by omega)
end
theorem ev_bin {n : Nat} {c : Nat → Nat → Bool} (T : Tot n c) : ∀ (f : Nat) (p : Array Nat) (k : Nat), Pm n p → k + f = n → So c p k → Pm n (ev c (kas_bin f p k)) ∧ So c (ev c (kas_bin f p k)) n
  | 0, p, k, hp, hk, hs => ⟨hp, by rw [← show k = n by omega]; exact hs⟩
  | f + 1, p, k, hp, hk, hs => by
    have e : ev c (kas_bin (f + 1) p k) = ev c (kas_bin f (bubble p k (k - ev c (kas_place p k k 0 k))) (k + 1)) := by
      show ev c ((kas_place p k k 0 k).bind fun l => kas_bin f (bubble p k (k - l)) (k + 1)) = _
      rw [ev_bind]
    rw [e]
    obtain ⟨a, lo, hi⟩ := ev_place T hp (show k < n by omega) hs k 0 k (by omega) (by omega) (Nat.le_refl _) (fun i h => absurd h (by omega)) (fun i h1 h2 => by omega)
    exact ev_bin T f _ (k + 1) (hp.of (bubble_perm _ _ _)) (by omega) (hs.put hp (by omega) a lo hi)
/-- THE SORT: a total order's answers, the numbers come out by it -/
theorem ev_sort {n : Nat} {c : Nat → Nat → Bool} (T : Tot n c) (hn : 1 ≤ n) : Pm n (ev c (kas_sort n)) ∧ So c (ev c (kas_sort n)) n := by
  have hp : Pm n (List.toArray (List.range n)) := List.Perm.refl _
  obtain ⟨m, q, e, a, b, hq, hs⟩ := ev_count T hp hn
  unfold kas_sort
  rw [ev_bind, e]
  dsimp only
  by_cases h : m < n
  · rw [if_pos h]
    exact ev_bin T _ q _ hq (by omega) (by rw [show max m 1 = m by omega]; exact hs)
  · rw [if_neg h]
    exact ⟨hq, by rw [← show m = n by omega]; exact hs⟩
end L2

namespace L2
open PySem PySem.Spec PyProof.Rows

/-! ### lists of pairs as tables -/
section
variable {κ : Type} [DecidableEq κ]
def valV (kvs : List (κ × V)) (k : κ) : Option V := (kvs.find? fun kv => decide (kv.1 = k)).map (·.2)
/-- in its place, or at the end -/
def putK (kvs : List (κ × V)) (k : κ) (v : V) : List (κ × V) :=
  if (kvs.any fun kv => decide (kv.1 = k)) = true then kvs.map (fun kv => if kv.1 = k then (kv.1, v) else kv) else kvs ++ [(k, v)]

theorem valV_pos {p : κ × V} {r : List (κ × V)} {k : κ} (e : p.1 = k) : valV (p :: r) k = some p.2 := by simp [valV, List.find?_cons, e]
theorem valV_neg {p : κ × V} {r : List (κ × V)} {k : κ} (e : ¬ p.1 = k) : valV (p :: r) k = valV r k := by simp [valV, List.find?_cons, e]
theorem valV_any (k : κ) : ∀ kvs : List (κ × V), (kvs.any fun kv => decide (kv.1 = k)) = (valV kvs k).isSome
  | [] => rfl
  | p :: r => by
    rw [List.any_cons]
    by_cases e : p.1 = k
    · simp only [valV_pos e, decide_eq_true e, Bool.true_or, Option.isSome_some]
    · rw [valV_neg e, decide_eq_false e, Bool.false_or]; exact valV_any k r
theorem length_putK (kvs : List (κ × V)) (k : κ) (v : V) : (putK kvs k v).length ≤ kvs.length + 1 := by
  unfold putK
  split
  · rw [List.length_map]; omega
  · rw [List.length_append, List.length_cons, List.length_nil]; omega

theorem RelO.isSome_eq {o : Option V} {u : Option Value} (r : RelO o u) : o.isSome = u.isSome := by
  cases o with
  | none => cases u with
    | none => rfl
    | some _ => exact (show False from r).elim
  | some _ => cases u with
    | none => exact (show False from r).elim
    | some _ => rfl
theorem RelO.getD {o : Option V} {u : Option Value} {d : V} {d' : Value} (r : RelO o u) (rd : RelV d d') : RelV (o.getD d) (u.getD d') := by
  cases o with
  | none => cases u with
    | none => exact rd
    | some _ => exact (show False from r).elim
  | some _ => cases u with
    | none => exact (show False from r).elim
    | some _ => exact r

/-- raw tables of the same keys -/
theorem KV.val {kvs : List (κ × V)} {vs : List (κ × Value)} (r : KV kvs vs) (k : κ) : RelO (valV kvs k) (valueAt vs k) := by
  unfold KV at r
  induction r with
  | nil => exact True.intro
  | @cons p q ps qs h t ih =>
    obtain ⟨h1, h2⟩ := h
    by_cases e : p.1 = k
    · have e' : q.1 = k := h1.symm.trans e
      have b : valueAt (q :: qs) k = some q.2 := by simp [valueAt, List.find?_cons, e']
      rw [valV_pos e, b]; exact h2
    · have e' : ¬ q.1 = k := fun z => e (h1.trans z)
      have b : valueAt (q :: qs) k = valueAt qs k := by simp [valueAt, List.find?_cons, e']
      rw [valV_neg e, b]; exact ih
theorem KV.any {kvs : List (κ × V)} {vs : List (κ × Value)} (r : KV kvs vs) (k : κ) : (kvs.any fun kv => decide (kv.1 = k)) = vs.any fun kv => decide (kv.1 = k) := by
  unfold KV at r
  induction r with
  | nil => rfl
  | cons h t ih => rw [List.any_cons, List.any_cons, ih, h.1]
theorem KV.repl {kvs : List (κ × V)} {vs : List (κ × Value)} (r : KV kvs vs) (k : κ) {y : V} {u : Value} (ry : RelV y u) :
    KV (kvs.map fun kv => if kv.1 = k then (kv.1, y) else kv) (vs.map fun kv => if kv.1 = k then (kv.1, u) else kv) := by
  unfold KV at r ⊢
  induction r with
  | nil => exact .nil
  | @cons p q ps qs h t ih =>
    rw [List.map_cons, List.map_cons]
    refine .cons ?_ ih
    obtain ⟨h1, h2⟩ := h
    by_cases e : p.1 = k
    · rw [if_pos e, if_pos (h1.symm.trans e)]; exact ⟨h1, ry⟩
    · rw [if_neg e, if_neg (fun z => e (h1.trans z))]; exact ⟨h1, h2⟩
theorem KV.put {kvs : List (κ × V)} {vs : List (κ × Value)} (r : KV kvs vs) (k : κ) {y : V} {u : Value} (ry : RelV y u) : KV (putK kvs k y) (stored vs k u) := by
  unfold putK stored
  rw [r.any k]
  by_cases e : (vs.any fun kv => decide (kv.1 = k)) = true
  · rw [if_pos e, if_pos e]; exact r.repl k ry
  · rw [if_neg e, if_neg e]; exact Paired.snoc r ⟨rfl, ry⟩
theorem KV.length {kvs : List (κ × V)} {vs : List (κ × Value)} (r : KV kvs vs) : kvs.length = vs.length := Paired.length r
end


/-! ### a tracked dict, its keys ints and texts or tuples of these -/
theorem kV_is {P : Program} {w : World} {k : Key} {u : Value} (r : RelV (kV k) u) : (mixKind P w).is k u = true := by
  cases k with
  | inl i => obtain ⟨t, e⟩ := (show ∃ t, u = Value.int i t from r); subst e; exact mixKind_int P w i t
  | inr x => obtain ⟨t, e⟩ := (show ∃ t, u = Value.str x t from r); subst e; exact mixKind_str P w x t
theorem items_are {P : Program} {w : World} : ∀ {ks : List Key} {us : List Value}, Vals (ks.map kV) us → ItemsAre (mixKind P w) ks us
  | [], _, r => by rw [List.map_nil] at r; cases r; exact .nil
  | k :: ks, _, r => by
    rw [List.map_cons] at r
    cases r with
    | cons h t => exact .cons (kV_is h) (items_are t)

/-- raw entries of a dict with tuple keys -/
abbrev KT (H : Hp) : List (List Key × V) → List (List Key × Addr × Value) → Prop := Paired fun p q => p.1 = q.1 ∧ H q.2.1 = some (.tup (p.1.map kV)) ∧ RelV p.2 q.2.2
theorem KT.val {H : Hp} {kvs : List (List Key × V)} {xs : List (List Key × Addr × Value)} (r : KT H kvs xs) (k : List Key) : RelO (valV kvs k) ((atKey xs k).map (·.2)) := by
  induction r with
  | nil => exact True.intro
  | @cons p q ps qs h t ih =>
    obtain ⟨h1, _, h2⟩ := h
    by_cases e : p.1 = k
    · have e' : q.1 = k := h1.symm.trans e
      have b : atKey (q :: qs) k = some q.2 := by simp [atKey, List.find?_cons, e']
      rw [valV_pos e, b]; exact h2
    · have e' : ¬ q.1 = k := fun z => e (h1.trans z)
      have b : atKey (q :: qs) k = atKey qs k := by simp [atKey, List.find?_cons, e']
      rw [valV_neg e, b]; exact ih
theorem KT.repl {H : Hp} {kvs : List (List Key × V)} {xs : List (List Key × Addr × Value)} (r : KT H kvs xs) (k : List Key) {y : V} {u : Value} (ry : RelV y u) :
    KT H (kvs.map fun kv => if kv.1 = k then (kv.1, y) else kv) (xs.map (putAt k u)) := by
  induction r with
  | nil => exact .nil
  | @cons p q ps qs h t ih =>
    rw [List.map_cons, List.map_cons]
    refine .cons ?_ ih
    obtain ⟨h1, h2, h3⟩ := h
    unfold putAt
    by_cases e : p.1 = k
    · rw [if_pos e, if_pos (h1.symm.trans e)]; exact ⟨h1, h2, ry⟩
    · rw [if_neg e, if_neg (fun z => e (h1.trans z))]; exact ⟨h1, h2, h3⟩
theorem KT.put {H : Hp} {kvs : List (List Key × V)} {xs : List (List Key × Addr × Value)} (r : KT H kvs xs) (k : List Key) {b : Addr} {y : V} {u : Value} (hb : H b = some (.tup (k.map kV))) (ry : RelV y u) :
    KT H (putK kvs k y) (storedH xs k b u) := by
  have e : (kvs.any fun kv => decide (kv.1 = k)) = (atKey xs k).isSome := by
    rw [valV_any, (r.val k).isSome_eq, Option.isSome_map]
  unfold putK storedH
  rw [e]
  by_cases q : (atKey xs k).isSome = true
  · rw [if_pos q, if_pos q]; exact r.repl k ry
  · rw [if_neg q, if_neg q]; exact Paired.snoc r ⟨rfl, hb, ry⟩
theorem KT.keeps {H H' : Hp} {kvs : List (List Key × V)} {xs : List (List Key × Addr × Value)} (r : KT H kvs xs) (ht : ∀ b ys, H b = some (.tup ys) → H' b = some (.tup ys)) : KT H' kvs xs :=
  Paired.mapP r fun _ _ z => ⟨z.1, ht _ _ z.2.1, z.2.2⟩

section
variable {P : Program} {w : World} {H : Hp} {h : Heap} {a : Addr}
theorem rd_of {u : HO} (ok : HOk P w H h) (e : Rd H a u) : ObjOk P w H h a u := e.ok ok
theorem dk_rd {kvs : List (Key × V)} (ok : HOk P w H h) (e : Rd H a (.dK kvs)) : kvs.length ≤ sizeLine ∧ (a == sysModules) = false ∧ ∃ vs, KV kvs vs ∧ h.DictOf (mixKind P w) a vs :=
  show ObjOk P w H h a (.dK kvs) from rd_of ok e
theorem dk_of {kvs : List (Key × V)} (ok : HOk P w H h) (e : H a = some (.dK kvs)) : kvs.length ≤ sizeLine ∧ (a == sysModules) = false ∧ ∃ vs, KV kvs vs ∧ h.DictOf (mixKind P w) a vs := dk_rd ok (.inl e)
/-- a tracked tuple of ints and texts is a key -/
theorem key_of {ks : List Key} (ok : HOk P w H h) (e : H a = some (.tup (ks.map kV))) : (tupleKind (mixKind P w)).is h ks a := by
  obtain ⟨_, its, r, o, h1, h2, n, h3⟩ := (show ObjOk P w H h a (.tup (ks.map kV)) from ok a _ e)
  exact ⟨o, its.toArray, n, h1, h2, h3, by simpa using items_are r⟩
theorem dt_rd {kvs : List (List Key × V)} (ok : HOk P w H h) (e : Rd H a (.dT kvs)) : kvs.length ≤ sizeLine ∧ (a == sysModules) = false ∧
    ∃ xs, KT H kvs xs ∧ h.DictOfH (tupleKind (mixKind P w)) a xs := by
  obtain ⟨z, y, xs, r, o, es, ep, h1, h2, h3, h4, h5⟩ := (show ObjOk P w H h a (.dT kvs) from rd_of ok e)
  refine ⟨z, y, xs, r, o, es, ep, h1, h2, h3, h4, fun x hx => ?_, h5⟩
  have all : ∀ {l : List (List Key × V)} {m : List (List Key × Addr × Value)}, KT H l m → ∀ x ∈ m, (tupleKind (mixKind P w)).is h x.1 x.2.1 := by
    intro l m q
    induction q with
    | nil => intro x hx; exact nomatch hx
    | @cons p q ps qs hq t ih =>
      intro x hx
      rcases List.mem_cons.mp hx with e | hx
      · subst e
        exact key_of ok (by rw [← hq.1]; exact hq.2.1)
      · exact ih x hx
  exact all r x hx
theorem dt_of {kvs : List (List Key × V)} (ok : HOk P w H h) (e : H a = some (.dT kvs)) : kvs.length ≤ sizeLine ∧ (a == sysModules) = false ∧
    ∃ xs, KT H kvs xs ∧ h.DictOfH (tupleKind (mixKind P w)) a xs := dt_rd ok (.inl e)
end

/-- what the dict at a holds at the key y -/
def DGet (H : Hp) (a : Addr) (y : V) (r : Option V) : Prop :=
  (∃ kvs k, Rd H a (.dK kvs) ∧ y = kV k ∧ r = valV kvs k) ∨ ∃ kvs k b, Rd H a (.dT kvs) ∧ y = .ref b ∧ H b = some (.tup (k.map kV)) ∧ r = valV kvs k
/-- the heap behind a[y] = v -/
def DPut (H : Hp) (a : Addr) (y v : V) (H' : Hp) : Prop :=
  (∃ kvs k, H a = some (.dK kvs) ∧ y = kV k ∧ kvs.length < sizeLine ∧ H' = upd H a (.dK (putK kvs k v))) ∨
  ∃ kvs k b, H a = some (.dT kvs) ∧ y = .ref b ∧ H b = some (.tup (k.map kV)) ∧ kvs.length < sizeLine ∧ H' = upd H a (.dT (putK kvs k v))
theorem DGet.t {H : Hp} {a b : Addr} {kvs : List (List Key × V)} {k : List Key} (e : H a = some (.dT kvs)) (eb : H b = some (.tup (k.map kV))) : DGet H a (.ref b) (valV kvs k) := .inr ⟨kvs, k, b, .inl e, rfl, eb, rfl⟩
theorem DPut.t {H : Hp} {a b : Addr} {kvs : List (List Key × V)} {k : List Key} {v : V} (e : H a = some (.dT kvs)) (eb : H b = some (.tup (k.map kV))) (hl : kvs.length < sizeLine) :
    DPut H a (.ref b) v (upd H a (.dT (putK kvs k v))) := .inr ⟨kvs, k, b, e, rfl, eb, hl, rfl⟩


section
variable {X : Cx} {pins : List (Addr × Obj)} {σ : St} {H : Hp} {s : Shared} {a : Addr} {y v : V} {u r : Value} {o : Option V} {A : Around} {E : Value → Shared → Prop}

theorem Inv.big (I : Inv X pins σ H s) : sysModules < s.heap.objs.size := by
  have h : mainGlobals < s.heap.objs.size := (I.mod.glob.keeps I.bk).lt
  exact Nat.lt_trans (by decide) h

/-- d[y], there -/
theorem d_getItem {Q : Value → Shared → Prop} (hu : A.units + 1 < cLine) (I : Inv X pins σ H s) (g : DGet H a y (some v)) (ry : RelV y u) (h : ∀ w' s', Inv X pins σ H s' → RelV v w' → Q w' s') :
    wpAny (model X.prog X.w) A (getItem (.ref a) u) Q E s := by
  rcases g with ⟨kvs, k, e, ey, l⟩ | ⟨kvs, k, b, e, ey, eb, l⟩
  · subst ey
    obtain ⟨z, hd, vs, rel, dd⟩ := dk_rd I.hok e
    obtain ⟨w', hw, rw'⟩ := RelO.some_of (v := v) (o := valueAt vs k) (by rw [l]; exact rel.val k)
    exact wpAny_getItem_of (kV_is ry) dd.mapOf hw (h w' _ (I.tok _) rw')
  · subst ey
    cases (show u = Value.ref b from ry)
    obtain ⟨z, hd, xs, rel, dd⟩ := dt_rd I.hok e
    obtain ⟨w', hw, rw'⟩ := RelO.some_of (v := v) (o := (atKey xs k).map (·.2)) (by rw [l]; exact rel.val k)
    obtain ⟨p, hp, hp2⟩ := Option.map_eq_some_iff.mp hw
    refine wpAny_getItem_heap (tupleKind_room_in1 hu) (key_of I.hok eb) dd hp ?_
    rw [hp2]
    exact h w' _ (I.tok _) rw'
/-- a dict's object is replaced -/
theorem d_write {h' : Heap} {t' : Nat} {ob : HO} (I : Inv X pins σ H s) (mu : Mut (H a)) (hs : Heap.SameBut a s.heap h') (he : ∃ q, h'.get? a = some q) (new : ObjOk X.prog X.w (upd H a ob) h' a ob) :
    Inv X pins σ (upd H a ob) { s with heap := h', toks := t' } :=
  I.write (x := a) (e := a) mu (.inl rfl) (fun b q hb z => (hs.2 b hb).trans z) he new
theorem dk_new {P : Program} {w : World} {H' : Hp} {h' : Heap} {kvs : List (Key × V)} {vs : List (Key × Value)} (z : kvs.length ≤ sizeLine) (hd : (a == sysModules) = false) (rel : KV kvs vs) (dd : h'.DictOf (mixKind P w) a vs) :
    ObjOk P w H' h' a (.dK kvs) := ⟨z, hd, vs, rel, dd⟩
/-- d[y] = v -/
theorem d_setItem {H' : Hp} {Q : Unit → Shared → Prop} (hu : A.units + 1 < cLine) (I : Inv X pins σ H s) (g : DPut H a y v H') (ry : RelV y u) (rv : RelV v r) (h : ∀ s', Inv X pins σ H' s' → Q () s') :
    wpAny (model X.prog X.w) A (setItem (.ref a) u r) Q E s := by
  rcases g with ⟨kvs, k, e, ey, l, eH⟩ | ⟨kvs, k, b, e, ey, eb, l, eH⟩
  · subst ey eH
    obtain ⟨z, hd, vs, rel, dd⟩ := dk_of I.hok e
    have hz : vs.length ≤ sizeLine := by rw [← rel.length]; exact z
    have hl : (putK kvs k v).length ≤ sizeLine := by have := length_putK kvs k v; omega
    refine wpAny_setItem_pairs (hsz := hz) (kV_is ry) dd fun h' dd' hs => h _ ?_
    have he : ∃ q, h'.get? a = some q := let ⟨q, _, _, hq, _⟩ := dd'; ⟨q, hq⟩
    exact d_write I (by rw [e]; exact True.intro) hs he (dk_new hl hd (rel.put k rv) dd')
  · subst ey eH
    cases (show u = Value.ref b from ry)
    obtain ⟨z, hd, xs, rel, dd⟩ := dt_of I.hok e
    have hz : xs.length ≤ sizeLine := by rw [← Paired.length rel]; exact z
    have hl : (putK kvs k v).length ≤ sizeLine := by have := length_putK kvs k v; omega
    refine wpAny_setItem_heap (hsz := hz) (tupleKind_room_in1 hu) (key_of I.hok eb) dd fun h' dd' hs => h _ ?_
    obtain ⟨q, es, ep, hq, h2, h3, h4, _, h5⟩ := dd'
    refine d_write I (by rw [e]; exact True.intro) hs ⟨q, hq⟩ ⟨hl, hd, _, (rel.put k eb rv).keeps fun c ys ec => ?_, q, es, ep, hq, h2, h3, h4, h5⟩
    rw [upd_ne (ne_of ec e (fun z => nomatch z))]
    exact ec
end

section
variable {X : Cx} {pins : List (Addr × Obj)} {σ : St} {H : Hp} {s : Shared} {a : Addr} {kvs : List (Key × V)} {k : Key} {u : Value} {A : Around} {E : Value → Shared → Prop}
end


/-! ### readings and rules -/
/-- the element of a subscription, not a slice -/
def NoSl (i : Expr) : Prop := ∀ ov iv, subscripted i false ov iv = operate [ov, iv] (getItem ov iv)
theorem subD_of {prog : Program} {w : World} {A : Around} {E : Value → Shared → Prop} {s : Shared} {env : Env} {value slice : Expr} {pos : Pos} {T id : String} {Q : Value → Shared → Prop}
    (hl : typeLookup (.type T) "__getitem__" = pure (some (.builtin id))) (hs : NoSl slice)
    (h : wpAny (model prog w) A (eval value env) (fun o s₁ => wpAny (model prog w) A (eval slice env) (fun i s₂ => s₂.TypeIs o T ∧ wpAny (model prog w) A (getItem o i) Q E s₂) E s₁) E s) :
    wpAny (model prog w) A (eval (.Subscript value slice pos) env) Q E s := by
  refine Subscript_ (wpAny_mono h (fun o s₁ h₁ => wpAny_mono h₁ (fun i s₂ h₂ => ?_) fun _ _ x => x) fun _ _ x => x)
  obtain ⟨hT, h₂⟩ := h₂
  unfold subscriptTail
  refine wpAny_bind ?_
  rw [getitemInPython_of_ne hT.not_modules]
  refine wpAny_bind (wpAny_specialOf hT hl ?_)
  have fin : wpAny (model prog w) A (subscripted slice false o i) (fun r s₃ => wpAny (model prog w) A (letTemporaryGo value o r >>= fun _ => pure r) Q E s₃) E s₂ := by
    rw [hs o i]
    exact wpAny_operating (wpAny_mono h₂ (fun r s₃ h₃ => wpAny_bind (wpAny_letTemporaryGo (wpAny_pure h₃))) fun _ _ x => x)
  first
    | exact wpAny_pure (wpAny_bind fin)
    | exact wpAny_bind (wpAny_pure (wpAny_bind fin))
    | exact wpAny_bind fin

theorem dict_typeIs {X : Cx} {pins : List (Addr × Obj)} {σ : St} {H : Hp} {s : Shared} {a : Addr} {y : V} {o : Option V} (I : Inv X pins σ H s) (g : DGet H a y o) : s.TypeIs (.ref a) "dict" := by
  rcases g with ⟨kvs, k, e, _, _⟩ | ⟨kvs, k, b, e, _, _, _⟩
  · obtain ⟨_, _, vs, _, dd⟩ := dk_rd I.hok e
    exact dd.typeIs
  · obtain ⟨_, _, xs, _, dd⟩ := dt_rd I.hok e
    exact dd.typeIs

/-- d[y] -/
def tDGet (td ty : TE) : TE := fun σ H Q => td σ H fun x H1 => ty σ H1 fun y H2 => ∃ a v, x = .ref a ∧ DGet H2 a y (some v) ∧ Q v H2
/-- d[y] = v -/
def sDPut (td ty tv : TE) : TS := fun D σ H => tv σ H fun v H1 => td σ H1 fun x H2 => ty σ H2 fun y H3 => ∃ a H4, x = .ref a ∧ DPut H3 a y v H4 ∧ D.nx σ H4

section
variable {X : Cx} {o i e value : Expr} {pos pos' tpos : Pos} {td ty tv : TE}
theorem pe_dget (hu : X.A.units + 1 < cLine) (ho : PE X o td) (hi : PE X i ty) (hs : NoSl i) : PE X (.Subscript o i pos) (tDGet td ty) := by
  intro pins s σ H Q I h
  refine subD_of PySem.F.slot_dict_getitem.lookup hs (thn (ho pins s σ H _ I h) fun u s1 ⟨x, H1, I1, rx, q1⟩ => thn (hi pins s1 σ H1 _ I1 q1) fun iv s2 ⟨y, H2, I2, ry, a, v, ex, g, q2⟩ => ?_)
  subst ex
  obtain rfl : u = Value.ref a := rx
  exact ⟨dict_typeIs I2 g, d_getItem hu I2 g ry fun w' s3 I3 rw' => ⟨v, H2, I3, rw', q2⟩⟩
theorem ps_dput (hu : X.A.units + 1 < cLine) (ho : PE X o td) (hi : PE X i ty) (hv : PE X value tv) (hs : swapsWith value (some (.Subscript o i pos')) pos.line X.env = pure false) :
    PS X (.Assign [.Subscript o i pos'] value pos) (sDPut td ty tv) := by
  intro pins s σ H D I h
  refine wpAny_Assign_Subscript (thn (hv pins s σ H _ I h) fun r s1 ⟨v, H1, I1, rv, q1⟩ => thn (ho pins s1 σ H1 _ I1 q1) fun u s2 ⟨x, H2, I2, rx, q2⟩ => thn (hi pins s2 σ H2 _ I2 q2) fun iv s3 ⟨y, H3, I3, ry, a, H4, ex, g, q3⟩ => ?_) hs
  subst ex
  obtain rfl : u = Value.ref a := rx
  exact d_setItem hu I3 g ry rv fun s4 I4 => ⟨σ, H4, I4, q3⟩
end


/-! ### displays -/
theorem dt_empty {P : Program} {w : World} {H : Hp} (h : Heap) (hb : sysModules < h.objs.size) : ObjOk P w H (h.push { cls := .type "dict", data := .dict #[] }) h.objs.size (.dT []) :=
  ⟨Nat.zero_le _, beq_eq_false_iff_ne.mpr (Ne.symm (Nat.ne_of_lt hb)), [], .nil, _, #[], 0, Heap.get?_push_size _ rfl, ⟨rfl, rfl, rfl⟩, rfl, rfl, List.nodup_nil⟩
def tDNewT : TE := fun _ H Q => ∀ p, H p = none → Q (.ref p) (upd H p (.dT []))
section
variable {X : Cx} {pos : Pos}
theorem pe_dnewT : PE X (.Dict [] [] pos) tDNewT := fun pins s σ H Q I h =>
  wpAny_Dict_empty ⟨.ref s.heap.objs.size, _, I.laid (a := s.heap.objs.size) (o := .dT []) (t' := s.toks) (fun _ _ q => Heap.get?_push_of_some _ q) (Nat.le_refl _) (dt_empty s.heap I.big), rfl, h _ (I.hok.fresh (Nat.le_refl _))⟩
end




/-! ### methods -/
structure M2 (X : Cx) (o : Expr) (m : Str) (apos : Pos) (e f : Expr) (cpos : Pos) : Prop where
  base : attributeBase o m X.env (eval o X.env) = eval o X.env
  few : ((backTo cpos (starEach [e, f] X.env)).all (fun x => !x.1) && (backToKw cpos (keywordEach [] X.env)).all (fun x => x.1.isSome)
    && decide (([e, f] : List Expr).length + ([] : List Keyword).length + (if ([] : List Keyword).isEmpty then 0 else 1) < 30)) = true
  line : (apos.endLine == cpos.line) = true
  trees : backTo cpos (starEach [e, f] X.env) = [(false, eval e X.env), (false, eval f X.env)]

/-- a is a dict, whatever its keys -/
def IsD (H : Hp) (a : Addr) : Prop := (∃ kvs, Rd H a (.dK kvs)) ∨ ∃ kvs, Rd H a (.dT kvs)
theorem isD_at {X : Cx} {pins : List (Addr × Obj)} {σ : St} {H : Hp} {s : Shared} {a : Addr} (I : Inv X pins σ H s) (d : IsD H a) :
    s.TypeIs (.ref a) "dict" ∧ (∀ b, Value.ref a = .ref b → ∃ ob, s.heap.get? b = some ob ∧ ob.dict = none) ∧ (a == sysModules) = false := by
  rcases d with ⟨kvs, e⟩ | ⟨kvs, e⟩
  · obtain ⟨_, hd, vs, _, dd⟩ := dk_rd I.hok e
    refine ⟨dd.typeIs, fun b q => ?_, hd⟩
    cases q
    obtain ⟨ob, _, _, h1, h2, _⟩ := dd
    exact ⟨ob, h1, h2.2.1⟩
  · obtain ⟨_, hd, xs, _, dd⟩ := dt_rd I.hok e
    refine ⟨dd.typeIs, fun b q => ?_, hd⟩
    cases q
    obtain ⟨ob, _, _, h1, h2, _⟩ := dd
    exact ⟨ob, h1, h2.2.1⟩

section
variable {X : Cx} {pins : List (Addr × Obj)} {σ : St} {H : Hp} {s : Shared} {a : Addr} {y d : V} {u r : Value} {o : Option V} {A : Around} {E : Value → Shared → Prop}
/-- d.get(y, x) -/
theorem d_get2 {Q : Value → Shared → Prop} (hu : A.units + 1 < cLine) (I : Inv X pins σ H s) (g : DGet H a y o) (ry : RelV y u) (rd : RelV d r) (h : ∀ w' s', Inv X pins σ H s' → RelV (o.getD d) w' → Q w' s') :
    wpAny (model X.prog X.w) A (call (.builtin "dict.get") [.ref a, u, r]) Q E s := by
  rcases g with ⟨kvs, k, e, ey, l⟩ | ⟨kvs, k, b, e, ey, eb, l⟩
  · subst ey
    obtain ⟨z, hd, vs, rel, dd⟩ := dk_rd I.hok e
    refine call_meetsIn PySem.F.slot_dict_get dd.typeIs PySem.F.entry_dict_get (PySem.F.args_dict_get_3 _ _ _) (meets_dict_get_default (mixKind X.prog X.w) a (kV_is ry) hd r) ⟨_, dd.mapOf, h _ _ (I.tok _) ?_⟩
    rw [l]
    exact (rel.val k).getD rd
  · subst ey
    cases (show u = Value.ref b from ry)
    obtain ⟨z, hd, xs, rel, dd⟩ := dt_rd I.hok e
    refine call_meetsIn PySem.F.slot_dict_get dd.typeIs PySem.F.entry_dict_get (PySem.F.args_dict_get_3 _ _ _) (meetsH_dict_get_default (tupleKind (mixKind X.prog X.w)) a b hd r) ⟨tupleKind_room_in1 hu, k, xs, key_of I.hok eb, dd, h _ _ (I.tok _) ?_⟩
    rw [l]
    exact (rel.val k).getD rd
end

def tDGet2 (td ty tx : TE) : TE := fun σ H Q => td σ H fun x H1 => ∃ a, x = .ref a ∧ IsD H1 a ∧ ty σ H1 fun y H2 => tx σ H2 fun z H3 => ∃ o, DGet H3 a y o ∧ Q (o.getD z) H3
section
variable {X : Cx} {o e f : Expr} {apos cpos : Pos} {td ty tx : TE}
theorem pe_dget2 (hu : X.A.units + 1 < cLine) (ho : PE X o td) (he : PE X e ty) (hf : PE X f tx) (m : M2 X o "get" apos e f cpos) : PE X (.Call (.Attribute o "get" apos) [e, f] [] cpos) (tDGet2 td ty tx) := by
  intro pins s σ H Q I h
  refine wpAny_Call_method m.base m.few m.line PySem.F.plainAttrs_dict PySem.F.slot_dict_get PySem.F.type_dict_get (thn (ho pins s σ H _ I h) fun u s1 ⟨x, H1, I1, rx, a, ex, d, q1⟩ => ?_)
  subst ex
  obtain rfl : u = Value.ref a := rx
  obtain ⟨t1, t2, _⟩ := isD_at I1 d
  refine ⟨t1, t2, ?_⟩
  rw [m.trees]
  refine Calls.callWith_builtin rfl (Calls.evalArgs_plain (Calls.spliced_cons (thn (he pins s1 σ H1 _ I1 q1) fun iv s2 ⟨y, H2, I2, ry, q2⟩ =>
    Calls.spliced_cons (thn (hf pins s2 σ H2 _ I2 q2) fun fv s3 ⟨z, H3, I3, rz, ov, g, q3⟩ => Calls.spliced_nil ?_))))
  exact d_get2 hu I3 g ry rz fun w' s4 I4 rw' => ⟨_, H3, I4, rw', q3⟩
end

/-! ### dict(d): a copy -/
section
variable {X : Cx} {pins : List (Addr × Obj)} {σ : St} {H : Hp} {s : Shared} {a : Addr} {kvs : List (Key × V)} {A : Around} {E : Value → Shared → Prop}
end


section
variable {X : Cx} {pins : List (Addr × Obj)} {σ : St} {H : Hp} {s : Shared} {a : Addr} {y : V} {u : Value} {A : Around} {E : Value → Shared → Prop}
end
end L2


namespace L2
open PySem PySem.Spec PyProof.Rows
/-! ### a dict's pairs: keys that differ -/
section
variable {κ : Type} [DecidableEq κ]
end
end L2

namespace L2
open PySem PySem.Spec PyProof.Rows PySem.W
/-! ### the sort asks of numbers below n alone -/
def InR {α : Type} (n : Nat) (P : α → Prop) : KasT α → Prop
  | .ret a => P a
  | .ask i j k => i < n ∧ j < n ∧ ∀ b, InR n P (k b)
theorem InR.bind {α β : Type} {n : Nat} {P : α → Prop} {Q : β → Prop} {f : α → KasT β} : ∀ {t : KasT α}, InR n P t → (∀ a, P a → InR n Q (f a)) → InR n Q (t.bind f)
  | .ret a, h, hf => hf a h
  | .ask i j k, h, hf => ⟨h.1, h.2.1, fun b => InR.bind (h.2.2 b) hf⟩
theorem InR.ite {α : Type} {n : Nat} {P : α → Prop} {c : Prop} [Decidable c] {t u : KasT α} (h1 : InR n P t) (h2 : InR n P u) : InR n P (if c then t else u) := by
  split
  · exact h1
  · exact h2
def Lo (n : Nat) (p : Array Nat) : Prop := ∀ x ∈ p, x < n
theorem Lo.at {n : Nat} {p : Array Nat} (h : Lo n p) (h0 : 0 < n) (i : Nat) : p.getD i 0 < n := by
  rw [gd_q]
  cases e : p[i]? with
  | none => exact h0
  | some x => exact h x (Array.mem_of_getElem? e)
theorem Lo.of {n : Nat} {p q : Array Nat} (h : Lo n p) (e : q.Perm p) : Lo n q := fun x hx => h x (e.mem_iff.mp hx)
section
variable {n : Nat} (h0 : 0 < n)
include h0
theorem inr_asc {p : Array Nat} (hp : Lo n p) : ∀ f m, InR n (fun _ => True) (kas_asc p f m)
  | 0, m => trivial
  | f + 1, m => ⟨hp.at h0 _, hp.at h0 _, fun b => .ite trivial (inr_asc hp f (m + 1))⟩
theorem inr_desc : ∀ f p m q, Lo n p → InR n (fun r => Lo n r.1) (kas_desc f p m q)
  | 0, p, m, q, hp => hp
  | f + 1, p, m, q, hp => ⟨hp.at h0 _, hp.at h0 _, fun b => .ite (.ite (inr_desc f _ _ _ (hp.of (mirror_perm _ _ _ _))) (inr_desc f _ _ _ hp))
      ⟨hp.at h0 _, hp.at h0 _, fun d => .ite hp (inr_desc f _ _ _ hp)⟩⟩
theorem inr_tail3 {p : Array Nat} (hp : Lo n p) (m k : Nat) : InR n (fun r => Lo n r.2) (kas_tail3 m k p) :=
  (inr_asc h0 (hp.of (mirror_perm _ _ _ _)) _ _).bind fun _ _ => hp.of (mirror_perm _ _ _ _)
theorem inr_descPart {p : Array Nat} (hp : Lo n p) (m k : Nat) : InR n (fun r => Lo n r.2) (kas_descPart m k p) :=
  (inr_desc h0 _ _ _ _ hp).bind fun r hr => .ite (inr_tail3 h0 (hr.of (mirror_perm _ _ _ _)) _ _) (inr_tail3 h0 hr _ _)
theorem inr_count {p : Array Nat} (hp : Lo n p) (k : Nat) : InR n (fun r => Lo n r.2) (kas_count k p) :=
  (inr_asc h0 hp _ _).bind fun m _ => .ite hp (.ite ⟨hp.at h0 _, hp.at h0 _, fun c => .ite hp (inr_descPart h0 (hp.of (mirror_perm _ _ _ _)) _ _)⟩ (inr_descPart h0 hp _ _))
theorem inr_place {p : Array Nat} (hp : Lo n p) (k : Nat) : ∀ f l r, InR n (fun _ => True) (kas_place p k f l r)
  | 0, l, r => trivial
  | f + 1, l, r => .ite trivial ⟨hp.at h0 _, hp.at h0 _, fun c => .ite (inr_place hp k f _ _) (inr_place hp k f _ _)⟩
theorem inr_bin : ∀ f p k, Lo n p → InR n (fun _ => True) (kas_bin f p k)
  | 0, p, k, hp => trivial
  | f + 1, p, k, hp => (inr_place h0 hp k _ _ _).bind fun l _ => inr_bin f _ _ (hp.of (bubble_perm _ _ _))
theorem inr_sort : InR n (fun _ => True) (kas_sort n) :=
  (inr_count h0 (fun x hx => by simpa using hx) n).bind fun r hr => .ite (inr_bin h0 _ _ _ hr) trivial
end
theorem wp_ev {α : Type} {n : Nat} {c : Nat → Nat → Bool} {cmp : Nat → Nat → (Bool → Shared → Prop) → Shared → Prop} {P : α → Prop} {Q : α → Shared → Prop} {s : Shared} (h : ∀ i j C, i < n → j < n → C (c i j) s → cmp i j C s) :
    ∀ {t : KasT α}, InR n P t → Q (ev c t) s → t.kasWp cmp Q s
  | .ret a, _, q => q
  | .ask i j k, r, q => h i j _ r.1 r.2.1 (wp_ev h (r.2.2 (c i j)) q)

/-! ### keys (int, tuple of ints) -/
def klt (a b : Int × List Int) : Bool := if a.1 = b.1 then (if a.2 = b.2 then false else HT.lexLt a.2 b.2) else decide (a.1 < b.1)
section
variable {X : Cx} {pins : List (Addr × Obj)} {σ : St} {H : Hp} {s : Shared}
/-- y is such a key -/
def KeyR (K : PySem.W.Frag) (H : Hp) (y : V) (k : Int × List Int) : Prop := ∃ a t, y = .ref a ∧ H a = some (.tup [.int k.1, .ref t]) ∧ SqT K H t (k.2.map V.int)
theorem key_lt {A : Around} {E : Value → Shared → Prop} {x y : V} {u v : Value} {j k : Int × List Int} {Q : Bool → Shared → Prop} (hu : A.units + 64 < cLine) (I : Inv X pins σ H s) (hx : KeyR X.K H x j) (hy : KeyR X.K H y k) (rx : RelV x u) (ry : RelV y v)
    (h : Q (klt j k) s) : wpAny (model X.prog X.w) A (keyLt' (tuples' true) u v) Q E s := by
  obtain ⟨a, ta, rfl, ha, hta⟩ := hx
  obtain ⟨b, tb, rfl, hb, htb⟩ := hy
  cases rx
  cases ry
  obtain ⟨_, its, r1, p1⟩ := (show ObjOk X.prog X.w H s.heap a (.tup _) from I.hok a _ ha)
  obtain ⟨_, its2, r2, p2⟩ := (show ObjOk X.prog X.w H s.heap b (.tup _) from I.hok b _ hb)
  obtain ⟨⟨cls, dd, data, sl⟩, ho, hc, n, hd⟩ := id p1
  obtain ⟨⟨cls2, dd2, data2, sl2⟩, ho2, hc2, n2, hd2⟩ := id p2
  cases r1 with
  | cons q1 r1 => cases r1 with
    | cons q2 r1 =>
      cases r1
      cases r2 with
      | cons q3 r2 => cases r2 with
        | cons q4 r2 =>
          cases r2
          obtain ⟨t1, rfl⟩ := q1
          obtain ⟨t3, rfl⟩ := q3
          cases q2
          cases q4
          refine kat_lt ho hd ho2 hd2 (kat_cons (wpAny_eqBool_int (kat_go (fun e => kat_yes ?_) fun e => kat_no ?_)))
          · have e1 : j.1 = k.1 := by simpa using e
            unfold klt at h
            rw [if_pos e1] at h
            obtain ⟨as, ra⟩ := (dr_ints hta).reads I rfl
            obtain ⟨bs, rb⟩ := (dr_ints htb).reads I rfl
            obtain ⟨jts, r3, p3, _⟩ := I.tuple hta
            obtain ⟨jts2, r4, p4, _⟩ := I.tuple htb
            have eqr : SeqAt.EqAt A s (.ref ta) (.ref tb) (decide (j.2 = k.2)) := by
              by_cases hab : ta = tb
              · subst hab
                rw [decide_eq_true (ints_inj (I.tuple_inj hta htb))]
                exact SeqAt.EqAt.same _
              · exact SeqAt.EqAt.of_refs hab fun prog w E Q' hq => eq_dataH ra rb (shaped_ints _) (shaped_ints _) hu (by rw [eqv_ints]; exact hq)
            refine kat_cons (eqr _ _ _ _ ?_)
            refine kat_go (fun e => kat_yes (kat_nil ?_)) fun e => kat_no ?_
            · rw [if_pos (of_decide_eq_true e)] at h
              exact h
            · rw [if_neg (of_decide_eq_false e)] at h
              exact kat_one _ _ (HT.lt_tupInts p3 p4 (intsAre_of r3) (intsAre_of r4) (by omega) h)
          · have e1 : ¬ j.1 = k.1 := by simpa using e
            unfold klt at h
            rw [if_neg e1] at h
            exact oneLt_int h
end
end L2

namespace L2
open PySem PySem.Spec PyProof.Rows PySem.W
section
variable {X : Cx} {pins : List (Addr × Obj)} {σ : St} {H : Hp} {s : Shared}
/-- kept but at p, which is no tuple -/
theorem KeyR.but {K : PySem.W.Frag} {H H' : Hp} {p : Addr} {xs : List V} {y : V} {k : Int × List Int} (hp : H p = some (.lst xs)) (hk : ∀ c o, H c = some o → c ≠ p → H' c = some o) (h : KeyR K H y k) : KeyR K H' y k := by
  obtain ⟨a, t, rfl, ha, ht⟩ := h
  refine ⟨a, t, rfl, hk _ _ ha (ne_of ha hp (by intro z; cases z)), ?_⟩
  rcases ht with (h | ⟨o, h⟩) | h
  · exact .inl (.inl (hk _ _ h (ne_of h hp (by intro z; cases z))))
  · exact .inl (.inr ⟨o, hk _ _ h (ne_of h hp (by intro z; cases z))⟩)
  · exact .inr h
theorem KeyR.same {K : PySem.W.Frag} {H H' : Hp} {y : V} {k : Int × List Int} (e : Same H H') (h : KeyR K H y k) : KeyR K H' y k := by
  obtain ⟨a, t, rfl, ha, ht⟩ := h
  exact ⟨a, t, rfl, e _ _ ha, e.sqT ht⟩
abbrev KeysR (K : PySem.W.Frag) (H : Hp) : List V → List (Int × List Int) → Prop := Paired (KeyR K H)
theorem KeysR.imp {K : PySem.W.Frag} {H H' : Hp} (hh : ∀ y k, KeyR K H y k → KeyR K H' y k) : ∀ {ys : List V} {ks : List (Int × List Int)}, KeysR K H ys ks → KeysR K H' ys ks
  | _, _, .nil => .nil
  | _, _, .cons q r => .cons (hh _ _ q) (KeysR.imp hh r)
theorem KeysR.snoc {K : PySem.W.Frag} {H : Hp} {y : V} {k : Int × List Int} (q : KeyR K H y k) : ∀ {ys : List V} {ks : List (Int × List Int)}, KeysR K H ys ks → KeysR K H (ys ++ [y]) (ks ++ [k])
  | _, _, .nil => .cons q .nil
  | _, _, .cons p r => .cons p (KeysR.snoc q r)
theorem KeysR.get {K : PySem.W.Frag} {H : Hp} : ∀ {ys : List V} {ks : List (Int × List Int)} {i : Nat} {y : V}, KeysR K H ys ks → ys[i]? = some y → ∃ k, ks[i]? = some k ∧ KeyR K H y k
  | _, _, 0, y, .cons q r, e => by cases e; exact ⟨_, rfl, q⟩
  | _ :: _, _ :: _, i + 1, y, .cons q r, e => KeysR.get (i := i) r e
/-- their kind -/
theorem keys_kind (I : Inv X pins σ H s) : ∀ {ys : List V} {ks : List (Int × List Int)} {us : List Value}, KeysR X.K H ys ks → Vals ys us → ∃ fs : List Value, KatTups s.heap us fs ∧ fs.length = us.length ∧ ∀ v ∈ fs, ∃ n t, v = Value.int n t
  | _, _, _, .nil, .nil => ⟨[], .nil, rfl, fun _ h => nomatch h⟩
  | _, _, _, .cons q r, .cons p v => by
    obtain ⟨fs, h1, h2, h3⟩ := keys_kind I r v
    obtain ⟨a, t, rfl, ha, ht⟩ := q
    cases p
    obtain ⟨_, its, r1, p1⟩ := (show ObjOk X.prog X.w H s.heap a (.tup _) from I.hok a _ ha)
    obtain ⟨⟨cls, dd, data, sl⟩, ho, hc, n, hd⟩ := id p1
    cases r1 with
    | cons q1 r1 =>
      obtain ⟨t1, rfl⟩ := q1
      refine ⟨.int _ t1 :: fs, .cons ho hc hd rfl h1, by simp [h2], fun v hv => ?_⟩
      rcases List.mem_cons.mp hv with rfl | hv
      · exact ⟨_, _, rfl⟩
      · exact h3 v hv
/-- the items' keys are made -/
theorem keys_walk {A : Around} {E : Value → Shared → Prop} {f : Value} {H0 : Hp} {D kS : Addr} {φ : Heap → Prop} {key : V → Int × List Int} {body : Value → PUnit → Sem (ForInStep PUnit)} {R : PUnit → Shared → Prop} {all : List V}
    (h0 : H0 kS = none) (hn : all.length < 64)
    (hf : ∀ x ∈ all, ∀ u H1 s1, RelV x u → Inv X pins σ H1 s1 → Same H0 H1 → wpAny (model X.prog X.w) A (call f [u]) (fun k s2 => ∃ y H2, Inv X pins σ H2 s2 ∧ RelV y k ∧ Same H1 H2 ∧ KeyR X.K H2 y (key x)) (fun _ _ => False) s1)
    (hb : ∀ u (s1 : Shared) (C : Shared → Prop), wpAny (model X.prog X.w) A (call f [u]) (fun k s2 => ∃ (ks : List Value) (n : Nat), s2.heap.get? kS = some (seqObj "list" (List.toArray ks) n) ∧ ks.length < 64 ∧ C { s2 with heap := s2.heap.update kS (Obj.mapSeq (·.push k)) }) (fun _ _ => False) s1 →
      wpAny (model X.prog X.w) A (body u ⟨⟩) (fun r s2 => r = .yield ⟨⟩ ∧ C s2) E s1)
    (hR : ∀ H1 s1 ys ks, Inv X pins σ H1 s1 → Same H0 H1 → H1 D = some (.ext φ) → H1 kS = some (.lst ys) → KeysR X.K H1 ys ks → ks = all.map key → R ⟨⟩ s1) :
    ∀ (r pre : List V) (us : List Value) (ys : List V) (H1 : Hp) (s1 : Shared), all = pre ++ r → Vals r us → Inv X pins σ H1 s1 → Same H0 H1 → H1 D = some (.ext φ) → H1 kS = some (.lst ys) → KeysR X.K H1 ys (pre.map key) →
      wpAny (model X.prog X.w) A (forIn us PUnit.unit body) R E s1
  | [], pre, us, ys, H1, s1, ea, rv, I, sm, hD, hk, kr => by
    cases rv
    rw [List.forIn_nil]
    exact wpAny_pure (hR H1 s1 ys _ I sm hD hk kr (by rw [ea, List.append_nil]))
  | x :: r, pre, us, ys, H1, s1, ea, rv, I, sm, hD, hk, kr => by
    cases rv with
    | cons q rv =>
      rename_i u us
      rw [List.forIn_cons]
      have hx : x ∈ all := by rw [ea]; simp
      have hyl : ys.length = pre.length := by have := Paired.length kr; rw [List.length_map] at this; exact this
      have hal : all.length = pre.length + (r.length + 1) := by rw [ea, List.length_append, List.length_cons]
      refine wpAny_bind (wpAny_mono (hb u s1 (fun s2 => wpAny (model X.prog X.w) A (forIn us PUnit.unit body) R E s2) (wpAny_mono (hf x hx u H1 s1 q I sm) (fun k s2 ⟨y, H2, I2, ry, sm2, ky⟩ => ?_) fun _ _ z => z)) (fun z s2 ⟨ez, hz⟩ => ?_) fun _ _ z => z)
      · obtain ⟨_, its, n, rk, lk, ek⟩ := I2.lstM (sm2 _ _ hk)
        refine ⟨its, n, ek, by omega, ?_⟩
        have I3 := I2.lset (t' := s2.toks) (f := (·.push k)) (its' := its ++ [k]) (ys := ys ++ [y]) (sm2 _ _ hk) ek (by simp) (rk.append (.cons ry .nil)) (by rw [List.length_append, List.length_singleton, sizeLine_eq]; omega)
        have keep : ∀ c o, H2 c = some o → c ≠ kS → upd H2 kS (.lst (ys ++ [y])) c = some o := fun c o e ne => by rw [upd_ne ne]; exact e
        refine keys_walk h0 hn hf hb hR r (pre ++ [x]) us (ys ++ [y]) _ _ (by rw [ea]; simp) rv I3 (fun c o e => ?_) ?_ upd_same ?_
        · exact keep c o (sm2 _ _ (sm c o e)) (ne_of_none e h0)
        · exact keep D _ (sm2 _ _ hD) (ne_of hD hk (by intro z; cases z))
        · rw [List.map_append]
          exact KeysR.snoc (ky.but (sm2 _ _ hk) keep) (KeysR.imp (fun _ _ z => (z.same sm2).but (sm2 _ _ hk) keep) kr)
      · subst ez
        exact hz
end
end L2

namespace L2
open PySem PySem.Spec PyProof.Rows PySem.W
/-! ### the keys' order is total -/
theorem lex_trans : ∀ {a b c : List Int}, HT.lexLt a b = true → HT.lexLt b c = true → HT.lexLt a c = true
  | [], [], _, h, _ => by simp [HT.lexLt] at h
  | [], _ :: _, [], _, h => by simp [HT.lexLt] at h
  | [], _ :: _, _ :: _, _, _ => rfl
  | _ :: _, [], _, h, _ => by simp [HT.lexLt] at h
  | _ :: _, _ :: _, [], _, h => by simp [HT.lexLt] at h
  | x :: a, y :: b, z :: c, h1, h2 => by
    rw [HT.lexLt_cons] at h1 h2 ⊢
    by_cases e1 : x = y
    · subst e1
      rw [if_pos rfl] at h1
      by_cases e2 : x = z
      · rw [if_pos e2] at h2 ⊢
        exact lex_trans h1 h2
      · rw [if_neg e2] at h2 ⊢
        exact h2
    · rw [if_neg e1] at h1
      have l1 := of_decide_eq_true h1
      by_cases e2 : y = z
      · subst e2
        rw [if_neg e1]
        exact h1
      · rw [if_neg e2] at h2
        have l2 := of_decide_eq_true h2
        rw [if_neg (by omega)]
        exact decide_eq_true (by omega)
theorem lex_total : ∀ {a b : List Int}, a ≠ b → HT.lexLt a b = false → HT.lexLt b a = true
  | [], [], h, _ => absurd rfl h
  | [], _ :: _, _, h => by simp [HT.lexLt] at h
  | _ :: _, [], _, _ => rfl
  | x :: a, y :: b, h, h1 => by
    rw [HT.lexLt_cons] at h1 ⊢
    by_cases e : x = y
    · subst e
      rw [if_pos rfl] at h1 ⊢
      exact lex_total (fun z => h (by rw [z])) h1
    · rw [if_neg e] at h1
      rw [if_neg (fun z => e z.symm)]
      have := of_decide_eq_false h1
      exact decide_eq_true (by omega)
theorem lex_irr : ∀ a : List Int, HT.lexLt a a = false
  | [] => rfl
  | x :: a => by rw [HT.lexLt_cons, if_pos rfl]; exact lex_irr a
theorem klt_eq (a b : Int × List Int) : klt a b = if a.1 = b.1 then HT.lexLt a.2 b.2 else decide (a.1 < b.1) := by
  unfold klt
  by_cases e : a.2 = b.2
  · rw [if_pos e, e, lex_irr]
  · rw [if_neg e]
theorem klt_trans {a b c : Int × List Int} (h1 : klt a b = true) (h2 : klt b c = true) : klt a c = true := by
  rw [klt_eq] at *
  by_cases e1 : a.1 = b.1
  · rw [if_pos e1] at h1
    by_cases e2 : b.1 = c.1
    · rw [if_pos e2] at h2
      rw [if_pos (e1.trans e2)]
      exact lex_trans h1 h2
    · rw [if_neg e2] at h2
      rw [if_neg (by rw [e1]; exact e2), e1]
      exact h2
  · rw [if_neg e1] at h1
    have l1 := of_decide_eq_true h1
    by_cases e2 : b.1 = c.1
    · rw [if_neg (by rw [← e2]; exact e1), ← e2]
      exact h1
    · rw [if_neg e2] at h2
      have l2 := of_decide_eq_true h2
      rw [if_neg (by omega)]
      exact decide_eq_true (by omega)
theorem klt_total {a b : Int × List Int} (h : a ≠ b) (h1 : klt a b = false) : klt b a = true := by
  rw [klt_eq] at *
  by_cases e : a.1 = b.1
  · rw [if_pos e] at h1
    rw [if_pos e.symm]
    exact lex_total (fun z => h (Prod.ext e z)) h1
  · rw [if_neg e] at h1
    have := of_decide_eq_false h1
    rw [if_neg (fun z => e z.symm)]
    exact decide_eq_true (by omega)
theorem klt_irr (a : Int × List Int) : klt a a = false := by rw [klt_eq, if_pos rfl, lex_irr]
def kAt (ks : List (Int × List Int)) (i j : Nat) : Bool := klt (ks.getD i (0, [])) (ks.getD j (0, []))
theorem kAt_tot {ks : List (Int × List Int)} (hn : ks.Nodup) : Tot ks.length (kAt ks) := by
  refine ⟨fun i j k _ _ _ => klt_trans, fun i j hi hj hne h => klt_total (fun z => hne ?_) h⟩
  have g : ∀ {i : Nat} (hi : i < ks.length), ks.getD i (0, []) = ks[i] := fun hi => by simp [List.getD, hi]
  rw [g hi, g hj] at z
  exact (List.getElem_inj hn).mp z

section
variable {X : Cx} {pins : List (Addr × Obj)} {σ : St} {H : Hp} {s : Shared}
/-- the sorted items are laid back -/
theorem sort_tail {A : Around} {E : Value → Shared → Prop} {P : PySem.Fin → Shared → Prop} {H0 : Hp} {D kS : Addr} {e1 : Nat} {st : SortSt} {out : List Value} {ys zs : List V} (hout : (arrOf st).map (·.2) = List.toArray out) (hz : out.length < 64) (hf : failedOf st = none)
    (I : Inv X pins σ H s) (h0 : H0 kS = none) (h1 : H0 D = none) (sm : Same H0 H) (hD : H D = some (.ext fun h => h.get? D = some (seqObj "list" #[] e1))) (hk : H kS = some (.lst ys)) (rv : Vals zs out.reverse)
    (h : ∀ H2 s2, Inv X pins σ H2 s2 → Same H0 H2 → H2 D = some (.lst zs) → P (.done (.ret .none)) s2) : wpAny (model X.prog X.w) A (ksk_tail D true e1 (.ref kS) st) P E s := by
  have ne : D ≠ kS := ne_of hD hk (by intro z; cases z)
  have hzl : zs.length = out.length := by rw [rv.length, List.length_reverse]
  obtain ⟨lz, its, n, rk, lk, ek⟩ := I.lstM hk
  have I1 := I.lset (t' := s.toks) (f := fun _ => #[]) (its' := []) (ys := []) hk ek rfl .nil (Nat.zero_le _)
  have hD1 : upd H kS (.lst []) D = some (.ext fun h => h.get? D = some (seqObj "list" #[] e1)) := by rw [upd_ne ne]; exact hD
  have eD : (s.heap.update kS (Obj.mapSeq fun _ => #[])).get? D = some (seqObj "list" #[] e1) := (show ObjOk X.prog X.w _ _ D (.ext _) from I1.hok D _ hD1).1
  have q := get?_update_seq eD (fun _ => List.toArray out.reverse)
  have I2 : Inv X pins σ (upd (upd H kS (.lst [])) D (.lst zs)) { s with heap := (s.heap.update kS (Obj.mapSeq fun _ => #[])).update D (Obj.mapSeq fun _ => List.toArray out.reverse), toks := s.toks } :=
    I1.write (x := D) (e := D) (by rw [hD1]; exact trivial) (.inl rfl) (fun b' u hb hu => (Heap.get?_update_other _ _ (Ne.symm hb)).trans hu) ⟨_, q⟩ ⟨by rw [hzl, sizeLine_eq]; omega, out.reverse, _, rv, q⟩
  unfold ksk_tail
  dsimp only
  rw [hout, kat_outs, show katRev true out = out.reverse from if_pos rfl]
  refine wpAny_bind (listUpdate_at ek rfl ?_ (by rw [List.size_toArray, ← lk]; exact lz) (Nat.zero_le _))
  refine wpAny_bind (wpAny_letGo ?_)
  refine wpAny_bind (seqEpoch_at eD rfl ?_)
  refine wpAny_bind (listUpdate_at eD rfl ?_ (Nat.zero_le _) (by rw [List.size_toArray, List.length_reverse, sizeLine_eq]; omega))
  rw [hf]
  simp only [bne_self_eq_false, Bool.false_eq_true, if_false]
  refine wpAny_pure (h _ _ I2 (fun c o e => ?_) upd_same)
  rw [upd_ne (ne_of_none e h1), upd_ne (ne_of_none e h0)]
  exact sm c o e
end
end L2

namespace L2
open PySem PySem.Spec PyProof.Rows PySem.W
theorem getD_lt {α : Type} {l : List α} {d : α} {i : Nat} (h : i < l.length) : l.getD i d = l[i] := by simp [List.getD, h]
theorem map_range {α : Type} (l : List α) (d : α) : (List.range l.length).map (fun i => l.getD i d) = l := by
  apply List.ext_getElem
  · simp
  · intro i h1 h2
    rw [List.getElem_map, List.getElem_range, getD_lt h2]
def pick {α : Type} (p : Array Nat) (xs : List α) (d : α) : List α := p.toList.map fun i => xs.reverse.getD i d
theorem pick_perm {α : Type} {p : Array Nat} {xs : List α} {d : α} (hp : Pm xs.length p) : ((pick p xs d).reverse).Perm xs := by
  refine (List.reverse_perm _).trans (((hp.map _).trans ?_).trans (List.reverse_perm xs))
  rw [show List.map (fun i => xs.reverse.getD i d) (List.range xs.length) = xs.reverse by rw [← List.length_reverse (as := xs)]; exact map_range _ _]
theorem Pm.mem {n : Nat} {p : Array Nat} (hp : Pm n p) {i : Nat} (h : i ∈ p.toList) : i < n := List.mem_range.mp (hp.mem_iff.mp h)
theorem pick_vals {p : Array Nat} {xs : List V} {us : List Value} (hp : Pm xs.length p) (rv : Vals xs us) : Vals (pick p xs .non) (pick p us Value.none) := by
  have r := rv.reverse
  have go : ∀ l : List Nat, (∀ i ∈ l, i < xs.length) → Vals (l.map fun i => xs.reverse.getD i .non) (l.map fun i => us.reverse.getD i Value.none) := by
    intro l
    induction l with
    | nil => intro _; exact .nil
    | cons i l ih =>
      intro h
      have hi : i < xs.reverse.length := by rw [List.length_reverse]; exact h i (by simp)
      refine .cons ?_ (ih fun j hj => h j (by simp [hj]))
      obtain ⟨u, e, q⟩ := r.get (List.getElem?_eq_getElem hi)
      show RelV (xs.reverse.getD i .non) (us.reverse.getD i Value.none)
      rw [getD_lt hi, List.getD_eq_getElem?_getD, e]
      exact q
  exact go _ fun i hi => hp.mem hi
theorem pick_pair {p : Array Nat} {xs : List V} {key : V → Int × List Int} (hp : Pm xs.length p) (hs : So (kAt (xs.map key).reverse) p xs.length) : ((pick p xs .non).reverse).Pairwise fun x y => klt (key y) (key x) = true := by
  rw [List.pairwise_reverse]
  unfold pick
  rw [List.pairwise_map, List.pairwise_iff_getElem]
  intro i j hi hj hij
  rw [Array.length_toList, hp.sz] at hi hj
  have z := hs i j hij hj
  unfold kAt at z
  have g : ∀ k (hk : k < xs.length), key (xs.reverse.getD (p.getD k 0) .non) = (xs.map key).reverse.getD (p.getD k 0) (0, []) := fun k hk => by
    have h1 : p.getD k 0 < xs.length := hp.lt hk
    rw [getD_lt (by rw [List.length_reverse]; exact h1), getD_lt (by rw [List.length_reverse, List.length_map]; exact h1)]
    simp
  rw [← g i hi, ← g j hj, gd_at (by rw [hp.sz]; exact hi), gd_at (by rw [hp.sz]; exact hj)] at z
  exact z
section
variable {X : Cx} {pins : List (Addr × Obj)} {σ : St} {H : Hp} {s : Shared}
/-- the keys are there: the items are sorted by them, the greatest first -/
theorem sort_end {A : Around} {E : Value → Shared → Prop} {P : PySem.Fin → Shared → Prop} {H0 : Hp} {D kS : Addr} {e1 : Nat} {xs ys : List V} {us its : List Value} {key : V → Int × List Int} (hu : A.units + 64 < cLine)
    (I : Inv X pins σ H s) (h0 : H0 kS = none) (h1 : H0 D = none) (sm : Same H0 H) (hD : H D = some (.ext fun h => h.get? D = some (seqObj "list" #[] e1))) (hk : H kS = some (.lst ys)) (kr : KeysR X.K H ys (xs.map key)) (ru : Vals ys us) (rv : Vals xs its)
    (h64 : xs.length < 64) (nd : (xs.map key).Nodup)
    (h : ∀ H2 s2 zs, Inv X pins σ H2 s2 → Same H0 H2 → H2 D = some (.lst zs) → zs.Perm xs → zs.Pairwise (fun x y => klt (key y) (key x) = true) → P (.done (.ret .none)) s2) : wpAny (model X.prog X.w) A (ksk_end D true its.toArray e1 (.ref kS) us.toArray) P E s := by
  have lx := rv.length
  have lu := ru.length
  have ly : ys.length = xs.length := by have := Paired.length kr; rw [List.length_map] at this; exact this
  have hl : us.length = its.length := by omega
  unfold ksk_end
  dsimp only
  rw [if_pos rfl]
  refine wpAny_bind (wpAny_rule ?_)
  by_cases h2 : its.toArray.size < 2
  · rw [if_pos h2, if_pos h2]
    refine wpAny_bind (wpAny_pure ?_)
    rw [StateT.run_pure]
    refine wpAny_bind (wpAny_pure ?_)
    dsimp only
    rw [kat_pairs true hl, show katRev true us = us.reverse from if_pos rfl, show katRev true its = its.reverse from if_pos rfl]
    refine sort_tail (st := SortSt.mk' general' _ #[] 7 none) (out := its.reverse) (zs := xs) ?_ (by rw [List.length_reverse]; omega) rfl I h0 h1 sm hD hk (by rw [List.reverse_reverse]; exact rv) fun H2 s2 I2 sm2 q => h H2 s2 xs I2 sm2 q (.refl _) ?_
    · show Array.map (·.2) ((us.reverse.toArray).zip (its.reverse.toArray)) = _
      apply Array.toList_inj.mp
      rw [Array.toList_map, ksk_zip]
      exact List.map_snd_zip (by simp [hl])
    · rw [List.size_toArray] at h2
      match xs, (by omega : xs.length < 2) with
      | [], _ => exact .nil
      | [x], _ => exact List.pairwise_singleton _ _
  · rw [if_neg h2, if_neg h2]
    rw [List.size_toArray] at h2
    obtain ⟨fs, t1, t2, t3⟩ := keys_kind I kr ru
    refine wpAny_bind (kat_kind (T := .type "int") t1 (by omega) (fun v hv => ?_) (by decide) ?_)
    · obtain ⟨n, t, rfl⟩ := t3 v hv
      exact Looks.of_pure rfl
    rw [show (Value.type "int" != Value.type "tuple") = true by decide, kat_pairs true hl, show katRev true us = us.reverse from if_pos rfl, show katRev true its = its.reverse from if_pos rfl]
    have tot := kAt_tot (ks := (xs.map key).reverse) ((List.reverse_perm _).nodup_iff.mpr nd)
    rw [List.length_reverse, List.length_map] at tot
    obtain ⟨hp, hs⟩ := ev_sort tot (by omega)
    refine wpAny_bind (wpAny_mono (kat_run (vs := its.reverse) (ks := us.reverse) (G := fun p s' => p = ev (kAt (xs.map key).reverse) (kas_sort xs.length) ∧ s' = s)
      (Q := fun st' s' => s' = s ∧ failedOf st' = none ∧ arrOf st' = (ev (kAt (xs.map key).reverse) (kas_sort xs.length)).map (kas_item ((List.toArray us.reverse).zip (List.toArray its.reverse))))
      (by rw [List.length_reverse, List.length_reverse]; exact hl) (by rw [List.length_reverse]; omega) (by rw [List.length_reverse]; omega) (fun p st' s' a1 a2 a3 a4 => ⟨a4.2, a3, by rw [← a4.1]; exact a2⟩) ?_) ?_ fun _ _ x => x)
    · rw [List.length_reverse, ← lx]
      refine wp_ev (c := kAt (xs.map key).reverse) (fun i j C hi hj hC => ?_) (inr_sort (by omega)) ⟨rfl, rfl⟩
      show wpAny _ _ (keyLt' _ (us.reverse.getD i Value.none) (us.reverse.getD j Value.none)) C _ s
      have at_ : ∀ i, i < xs.length → ∃ y u, us.reverse.getD i Value.none = u ∧ RelV y u ∧ KeyR X.K H y ((xs.map key).reverse.getD i (0, [])) := fun i hi => by
        have hi' : xs.length - 1 - i < ys.length := by omega
        obtain ⟨k, ek, kk⟩ := KeysR.get kr (List.getElem?_eq_getElem hi')
        obtain ⟨u, eu, ru'⟩ := ru.get (List.getElem?_eq_getElem hi')
        refine ⟨ys[xs.length - 1 - i], u, ?_, ru', ?_⟩
        · rw [List.getD_eq_getElem?_getD, List.getElem?_reverse (by omega), show us.length - 1 - i = xs.length - 1 - i by omega, eu]
          rfl
        · rw [List.getD_eq_getElem?_getD, List.getElem?_reverse (by rw [List.length_map]; exact hi), List.length_map, ek]
          exact kk
      obtain ⟨y1, u1, e1, r1, k1⟩ := at_ i hi
      obtain ⟨y2, u2, e2, r2, k2⟩ := at_ j hj
      rw [e1, e2]
      exact key_lt hu I k1 k2 r1 r2 hC
    · rintro ⟨⟨⟩, st'⟩ s' ⟨es, hf, har⟩
      dsimp only at es hf har ⊢
      subst es
      refine sort_tail (out := pick (ev (kAt (xs.map key).reverse) (kas_sort xs.length)) its Value.none) (zs := (pick (ev (kAt (xs.map key).reverse) (kas_sort xs.length)) xs .non).reverse) (kat_snds (by rw [List.length_reverse, List.length_reverse]; exact hl) har) ?_ hf I h0 h1 sm hD hk (pick_vals hp rv).reverse
        fun H2 s2 I2 sm2 q => h H2 s2 _ I2 sm2 q (pick_perm hp) (pick_pair hp hs)
      unfold pick
      rw [List.length_map, Array.length_toList, hp.sz]
      exact h64
end
end L2

namespace L2
open PySem PySem.Spec PyProof.Rows PySem.W
section
variable {X : Cx} {pins : List (Addr × Obj)} {σ : St} {H : Hp} {s : Shared}
/-- what a key's function must promise -/
def KeyF (X : Cx) (pins : List (Addr × Obj)) (σ : St) (A : Around) (f : Value) (H0 : Hp) (xs : List V) (key : V → Int × List Int) : Prop :=
  ∀ x ∈ xs, ∀ u H1 s1, RelV x u → Inv X pins σ H1 s1 → Same H0 H1 → wpAny (model X.prog X.w) A (call f [u]) (fun k s2 => ∃ y H2, Inv X pins σ H2 s2 ∧ RelV y k ∧ Same H1 H2 ∧ KeyR X.K H2 y (key x)) (fun _ _ => False) s1
theorem sort_tree {A : Around} {E : Value → Shared → Prop} {P : PySem.Fin → Shared → Prop} {H0 : Hp} {D : Addr} {f : Value} {xs : List V} {key : V → Int × List Int} (hu : A.units + 64 < cLine)
    (I : Inv X pins σ H s) (h1 : H0 D = none) (sm : Same H0 H) (hD : H D = some (.lst xs)) (h64 : xs.length < 64) (nd : (xs.map key).Nodup) (hf : KeyF X pins σ A f H0 xs key)
    (h : ∀ H2 s2 zs, Inv X pins σ H2 s2 → Same H0 H2 → H2 D = some (.lst zs) → zs.Perm xs → zs.Pairwise (fun x y => klt (key y) (key x) = true) → P (.done (.ret .none)) s2) : wpAny (model X.prog X.w) A (ksk_tree D f true) P E s := by
  obtain ⟨lz, its, n, rv, lk, e⟩ := I.lstM hD
  have q := get?_update_seq e (fun _ => #[])
  have I1 : Inv X pins σ (upd H D (.ext fun h => h.get? D = some (seqObj "list" #[] (if ((#[] : Array Value).size == its.toArray.size) = true then n else n + 1)))) { s with heap := s.heap.update D (Obj.mapSeq fun _ => #[]), toks := s.toks } :=
    I.write (x := D) (e := D) (by rw [hD]; exact trivial) (.inl rfl) (fun b' u hb hu => (Heap.get?_update_other _ _ (Ne.symm hb)).trans hu) ⟨_, q⟩ ⟨q, ⟨_, q⟩, fun _ _ p k => k _ p⟩
  have I2 := I1.laid (t' := s.toks) (o := .tup xs) (fun b ob z => Heap.get?_push_of_some { cls := .type "tuple", data := .seq its.toArray } z) (Nat.le_refl _) ⟨by rw [sizeLine_eq]; omega, its, rv, IsTup.new _ _⟩
  have I3 := I2.lnew (t' := s.toks) (ys := []) (its := []) .nil (Nat.zero_le _)
  have nT := I1.fresh
  have nK := I2.fresh
  have hD1 : upd H D (.ext fun h => h.get? D = some (seqObj "list" #[] (if ((#[] : Array Value).size == its.toArray.size) = true then n else n + 1))) D = some (.ext fun h => h.get? D = some (seqObj "list" #[] (if ((#[] : Array Value).size == its.toArray.size) = true then n else n + 1))) := upd_same
  have s1 : Same H0 (upd H D (.ext fun h => h.get? D = some (seqObj "list" #[] (if ((#[] : Array Value).size == its.toArray.size) = true then n else n + 1)))) := sm.put h1
  have hD2 := Same.new (o := .tup xs) nT _ _ hD1
  have s2 := s1.trans (Same.new (o := .tup xs) nT)
  have hD3 := Same.new (o := .lst []) nK _ _ hD2
  have s3 := s2.trans (Same.new (o := .lst []) nK)
  have hK0 := s2.free nK
  unfold ksk_tree
  refine wpAny_bind (listItems_at e rfl ?_)
  refine wpAny_bind (listUpdate_at e rfl ?_ (by rw [List.size_toArray, sizeLine_eq]; omega) (Nat.zero_le _))
  refine wpAny_bind (seqEpoch_at q rfl ?_)
  refine wpAny_bind (wpAny_newTuple ?_ (by show its.length ≤ _; rw [sizeLine_eq]; omega))
  refine wpAny_bind (wpAny_newList ?_ (Nat.zero_le _))
  refine wpAny_holding ?_
  unfold ksk_rest
  refine wpAny_bind (wpAny_rule ?_)
  first
    | rw [List.forIn_toArray]
    | (rw [← Array.forIn_toList]; simp only [List.toList_toArray])
    | rw [← Array.forIn_toList]
  refine wpAny_bind (keys_walk (all := xs) hK0 h64 hf (fun u s1 C hc => ?_) (fun H4 s4 ys ks I4 sm4 hD4 hk4 kr ek => ?_) xs [] its [] _ _ rfl rv I3 s3 hD3 upd_same .nil)
  · refine wpAny_bind (wpAny_attempt (wpAny_mono hc (fun k s5 ⟨ks, m, eo, hz, hC⟩ => ?_) fun _ _ z => z.elim))
    dsimp only
    refine wpAny_bind (listUpdate_at eo rfl ?_ (by rw [List.size_toArray, sizeLine_eq]; omega) (Nat.le_trans (Nat.le_of_eq (Array.size_push ..)) (by rw [List.size_toArray, sizeLine_eq]; omega)))
    exact wpAny_pure ⟨rfl, hC⟩
  · dsimp only
    obtain ⟨_, us, m, ru, _, eo⟩ := I4.lstM hk4
    refine wpAny_bind (listItems_at eo rfl ?_)
    subst ek
    exact sort_end hu I4 hK0 h1 sm4 hD4 hk4 kr ru rv h64 nd h
end
end L2

namespace L2
open PySem PySem.Spec PyProof.Rows PySem.W
/-! ### a dict is walked, whatever its keys -/
def DRaw (d : Addr) (es : Array DictEntry) (ep : Nat) (h : Heap) : Prop := ∃ o, h.get? d = some o ∧ o.ExactDict ∧ o.data = .dict es ep
section
variable {prog : Program} {w : World} {A : Around} {E : Value → Shared → Prop} {s : Shared} {d it : Addr} {es : Array DictEntry} {ep i : Nat}
theorem DRaw.typeIs (h : DRaw d es ep s.heap) : s.TypeIs (.ref d) "dict" := let ⟨o, ho, hc, _⟩ := h; ⟨o, ho, hc.1⟩
theorem DRaw.at {h h' : Heap} (x : DRaw d es ep h) (e : ∀ o, h.get? d = some o → h'.get? d = some o) : DRaw d es ep h' := let ⟨o, ho, r⟩ := x; ⟨o, e _ ho, r⟩
theorem iter_raw {Q : Value → Shared → Prop} (hd : (d == sysModules) = false) (hm : DRaw d es ep s.heap)
    (hQ : Q (.ref s.heap.objs.size) { s with heap := s.heap.push { cls := .type "dict_keyiterator", data := .fields #[.ref d, .int 0 0, .int es.size 0, .int ep 0] } }) : wpAny (model prog w) A (pyIter (.ref d)) Q E s := by
  have hT := hm.typeIs
  obtain ⟨o, ho, _, hdat⟩ := id hm
  refine wpAny_pyIter_slot hT F.slot_dict_iter (wpAny_call_entry F.slot_dict_iter hT F.entry_dict_iter ?_ (F.args_dict_iter_1 _))
  unfold Builtin.«dict.__iter__» Builtin.Dict.dictSlotNone
  refine wpAny_bind (wpAny_bind (wpAny_notOrdered_dict hT (wpAny_pure ?_)))
  show wpAny _ _ (Builtin.Dict.showsAll d >>= _) _ _ s
  unfold Builtin.Dict.showsAll
  rw [if_neg (by rw [hd]; exact Bool.false_ne_true)]
  refine wpAny_bind (wpAny_pure (wpAny_bind (wpAny_dictEntries ho hdat (wpAny_bind (wpAny_dictEpoch ho hdat ?_)))))
  refine wpAny_bind (wpAny_newObj_type (wpAny_pure ⟨_, rfl, "dict_keyiterator", _, ⟨_, Heap.get?_push_size _ rfl, rfl⟩, F.slot_dict_keyiterator_next.lookup, ?_⟩))
  simpa [rawInt] using hQ
theorem next_raw {Q : Option Value → Shared → Prop} (hh : A.handled = none) (hit : s.heap.IsKeyIter it d i es.size ep) (hm : DRaw d es ep s.heap)
    (h1 : ∀ (hi : i < es.size) h', h'.IsKeyIter it d (i + 1) es.size ep → Heap.SameBut it s.heap h' → Q (some es[i].key) { s with heap := h' })
    (h2 : es.size ≤ i → ∀ h', Heap.ExtBut it s.heap h' → Q none { s with heap := h' }) : wpAny (model prog w) A (pyNext (.ref it)) Q E s := by
  obtain ⟨o, ho, hc, hd⟩ := id hit
  obtain ⟨od, hod, _, hdd⟩ := id hm
  have hT := hit.typeIs
  unfold pyNext
  refine wpAny_bind (wpAny_attempt (wpAny_callSpecial?_slot (name := Str.ofString "__next__") hT F.slot_dict_keyiterator_next (wpAny_call_entry F.slot_dict_keyiterator_next hT F.entry_dict_keyiterator_next ?_ (F.args_dict_keyiterator_next_1 _))))
  refine wpAny_bind (wpAny_pure (wpAny_bind (wpAny_bind ?_)))
  first | refine wpAny_bind (wpAny_typeNameOfWhole_keyiter hT (wpAny_pure ?_)) | refine wpAny_bind (wpAny_typeNameOf_keyiter hT (wpAny_pure ?_))
  refine wpAny_bind (wpAny_fieldsOf ho hd ?_)
  simp only [show Builtin.Dict_items.ownsTuple "dict_keyiterator" = false by decide, Bool.false_eq_true, if_false]
  show wpAny _ _ (if (Value.ref d == Value.none) = true then _ else _) _ _ s
  rw [if_neg (show ¬ ((Value.ref d == Value.none) = true) from Bool.false_ne_true)]
  refine wpAny_bind (wpAny_pure (wpAny_bind (wpAny_dictEntries hod hdd ?_)))
  rw [if_neg (by simp)]
  refine wpAny_bind (wpAny_pure (wpAny_bind (wpAny_dictEpoch hod hdd ?_)))
  rw [if_neg (by simp)]
  refine wpAny_pure ?_
  by_cases hlt : i < es.size
  · simp only [show ¬ ((i : Int) < 0) from by omega, if_false, Int.toNat_natCast, Array.getElem?_eq_getElem hlt]
    refine wpAny_bind ?_
    first | refine wpAny_bind (wpAny_typeNameOfWhole_keyiter hT (wpAny_pure ?_)) | refine wpAny_bind (wpAny_typeNameOf_keyiter hT (wpAny_pure ?_))
    refine wpAny_bind (wpAny_isOneOf_keyiter hT ?_)
    show wpAny _ _ (setField (.ref it) 1 (rawInt ((i : Int) + 1)) >>= _) _ _ s
    refine wpAny_bind (wpAny_setField ho hd (by simp) ?_)
    have hit' : (s.heap.update it (Obj.mapFields (·.setIfInBounds 1 (rawInt ((i : Int) + 1))))).IsKeyIter it d (i + 1) es.size ep :=
      ⟨_, Heap.get?_update_self _ ho (Obj.isFreed_of_fields (Obj.data_mapFields hd _)), (Obj.cls_mapFields ..).trans hc, by rw [Obj.data_mapFields hd]; simp [rawInt]⟩
    refine wpAny_bind (wpAny_holding (wpAny_bind (wpAny_isOneOf_keyiter (s := { s with heap := s.heap.update it (Obj.mapFields (·.setIfInBounds 1 (rawInt ((i : Int) + 1)))) }) hit'.typeIs ?_)))
    show wpAny _ _ (pure es[i].key) _ _ _
    exact wpAny_pure (wpAny_pure ⟨_, rfl, wpAny_pure (h1 hlt _ hit' (Heap.SameBut.update ..))⟩)
  · simp only [show ¬ ((i : Int) < 0) from by omega, if_false, Int.toNat_natCast, Array.getElem?_eq_none (Nat.le_of_not_lt hlt)]
    refine wpAny_bind ?_
    first | refine wpAny_bind (wpAny_typeNameOfWhole_keyiter hT (wpAny_pure ?_)) | refine wpAny_bind (wpAny_typeNameOf_keyiter hT (wpAny_pure ?_))
    show wpAny _ _ (setField (.ref it) 0 .none >>= _) _ _ s
    refine wpAny_bind (wpAny_setField ho hd (by simp) ?_)
    show wpAny _ _ (newExc (.type "StopIteration") [] >>= _) _ _ _
    refine wpAny_bind ?_
    simp only [newExc, newTuple]
    refine wpAny_bind (wpAny_newObj_type ?_ (by size_fits))
    refine wpAny_bind (m := firstArgMember _ _) (wpAny_of_eq (a := Value.none) (by first | rfl | (simp only [firstArgMember]; rfl)) ?_)
    refine wpAny_newObj_type ?_ (by size_fits)
    simp only [raiseNew]
    refine wpAny_bind (wpAny_handled ?_)
    rw [show A.in1.handled = none from hh]
    refine wpAny_bind (wpAny_pure (wpAny_throw ?_))
    refine wpAny_bind (wpAny_isInstance (T := "StopIteration") (b := true) ⟨_, Heap.get?_push_size _ rfl, rfl⟩ isSubtype_stop ?_)
    exact wpAny_pure (h2 (Nat.le_of_not_lt hlt) _ (((Heap.SameBut.update ..).extBut.push _).push _))
theorem walks_raw (hh : A.handled = none) (it d : Addr) (hne : d ≠ it) (es : Array DictEntry) (ep : Nat) :
    Walks prog w A it [it, d] [it] es.size (fun i v => ∃ hi : i < es.size, v = es[i].key) (fun i h => h.IsKeyIter it d i es.size ep ∧ DRaw d es ep h) where
  sub := fun b hb => by simp at hb; simp [hb]
  frame := fun _ _ _ st hk => ⟨st.1.at fun o e => hk it (by simp) o e, st.2.at fun o e => hk d (by simp) o e⟩
  item := fun i s Q E hi st hQ => next_raw hh st.1 st.2 (fun hi h' hit' hs' => hQ _ h' s.toks ⟨hi, rfl⟩ ⟨hit', st.2.at fun o e => hs'.extBut d o hne e⟩ fun b o hb e => hs'.extBut b o (fun h => hb (by simp [h])) e) fun hge => absurd hi (Nat.not_lt.mpr hge)
  done := fun s Q E st hQ => next_raw hh st.1 st.2 (fun hi => absurd hi (Nat.lt_irrefl _)) fun _ h' he' => hQ h' s.toks fun b o hb e => he' b o (fun h => hb (by simp [h])) e
  self := fun _ _ _ _ st hQ => wpAny_pyIter_keyiter st.1 hQ
theorem src_raw (lo : (d == sysModules) = false) : KdlSrc prog w "dict" d d es.size (fun i v => ∃ hi : i < es.size, v = es[i].key) (DRaw d es ep) where
  type := fun _ hm => hm.typeIs
  there := fun _ ⟨_, ho, _⟩ => ⟨Heap.lt_size ho, Heap.lt_size ho⟩
  keep := fun _ _ hm hk => hm.at fun o e => hk d (.inl rfl) o e
  notList := by decide
  notTuple := by decide
  hint := fun _ _ _ _ hm hq => kdl_hint_dict hm.typeIs hq
  iter := fun _ s hh hm => ⟨_, _, (fun _ _ hq => iter_raw lo hm hq), walks_raw hh _ d (Nat.ne_of_lt (let ⟨_, ho, _⟩ := hm; Heap.lt_size ho)) es ep, ⟨⟨_, Heap.get?_push_size _ rfl, rfl, rfl⟩, hm.at fun o e => Heap.get?_push_of_some _ e⟩⟩
end
end L2

namespace L2
open PySem PySem.Spec PyProof.Rows PySem.W
section
variable {X : Cx} {pins : List (Addr × Obj)} {σ : St} {H : Hp} {s : Shared}
/-- what sorted walks, and what is known of its items -/
def Src (K : PySem.W.Frag) (H : Hp) (x : V) (B : List V → Prop) : Prop :=
  (∃ l xs, x = .ref l ∧ SqL K H l xs ∧ B xs) ∨ ∃ d kvs, x = .ref d ∧ H d = some (.dT kvs) ∧ ∀ as, Paired (fun (p : List Key × V) (a : Addr) => H a = some (.tup (p.1.map kV))) kvs as → B (as.map V.ref)
theorem collect_src {E : Value → Shared → Prop} {A : Around} {x : V} {u : Value} {B : List V → Prop} {R : List Value → Shared → Prop} (hh : A.handled = none) (I : Inv X pins σ H s) (rx : RelV x u) (hs : Src X.K H x B)
    (h : ∀ h' tk its xs, B xs → Vals xs its → (∀ b o, s.heap.get? b = some o → h'.get? b = some o) → xs.length ≤ sizeLine → R its { s with heap := h', toks := tk }) : wpAny (model X.prog X.w) A (collect u) R E s := by
  rcases hs with ⟨l, xs, rfl, hl, hB⟩ | ⟨d, kvs, rfl, hd, hB⟩
  · cases rx
    obtain ⟨its, rv, p, hz⟩ := I.list hl
    refine collect_list (vs := its) p.isList (h _ s.toks its xs hB rv (fun b o q => ?_) hz) (by rw [← rv.length]; exact hz)
    have hlt : b < s.heap.objs.size := Heap.lt_size q
    rw [Heap.get?_update_ne _ _ _ _ (Nat.ne_of_lt hlt), Heap.get?_push_ne _ _ _ (Nat.ne_of_lt hlt)]
    exact q
  · cases rx
    obtain ⟨hz, hm, es3, kt, o, es, ep, h1, h2, h3, h4, h5⟩ := (show ObjOk X.prog X.w H s.heap d (.dT kvs) from I.hok d _ hd)
    have hsz : es.size = kvs.length := by rw [← Array.length_toList, h4, List.length_map, ← Paired.length kt]
    refine kdu_collect (src_raw (es := es) (ep := ep) hm) hh ⟨o, h1, h2, h3⟩ (by rw [hsz]; exact hz) fun h' tk acc hk ha => ?_
    have go : ∀ {l : List (List Key × V)} {m : List (List Key × Addr × Value)}, Paired (fun (p : List Key × V) (q : List Key × Addr × Value) => p.1 = q.1 ∧ H q.2.1 = some (.tup (p.1.map kV)) ∧ RelV p.2 q.2.2) l m →
        Paired (fun (p : List Key × V) (a : Addr) => H a = some (.tup (p.1.map kV))) l (m.map (·.2.1)) := by
      intro l m q
      induction q with
      | nil => exact .nil
      | cons hq t ih => exact .cons hq.2.1 ih
    have ke : acc.toList = (es3.map (·.2.1)).map Value.ref := by
      apply List.ext_getElem?
      intro j
      rw [Array.getElem?_toList]
      by_cases hj : j < es.size
      · have hj' : j < acc.size := by rw [ha.1]; exact hj
        obtain ⟨_, e⟩ := ha.2 j acc[j] (Array.getElem?_eq_getElem hj')
        rw [Array.getElem?_eq_getElem hj', e]
        have e2 : es.toList[j]? = (es3.map (entryOfKey (tupleKind (mixKind X.prog X.w))))[j]? := by rw [h4]
        rw [Array.getElem?_toList, Array.getElem?_eq_getElem hj, List.getElem?_map] at e2
        rw [List.getElem?_map, List.getElem?_map]
        cases e3 : es3[j]? with
        | none => rw [e3] at e2; cases e2
        | some q =>
          rw [e3] at e2
          show some es[j].key = some (Value.ref q.2.1)
          have e4 : es[j] = entryOfKey (tupleKind (mixKind X.prog X.w)) q := Option.some.inj e2
          rw [e4]
          rfl
      · rw [Array.getElem?_eq_none (by rw [ha.1]; omega)]
        symm
        apply List.getElem?_eq_none
        rw [List.length_map, List.length_map, ← Paired.length kt]
        omega
    have vals : ∀ l : List Addr, Vals (l.map V.ref) (l.map Value.ref) := by
      intro l
      induction l with
      | nil => exact .nil
      | cons a l ih => exact .cons rfl ih
    rw [ke]
    exact h h' tk _ _ (hB _ (go kt)) (vals _) hk (by rw [List.length_map, List.length_map, ← Paired.length kt]; exact hz)
/-- sorted(x, key=f, reverse=True) -/
theorem call_sorted {E : Value → Shared → Prop} {x : V} {u : Value} {f : Addr} {B : List V → Prop} {Q : Value → Shared → Prop} (hh : X.A.handled = none) (hu : X.A.in1.in1.units + 64 < cLine) (I : Inv X pins σ H s) (rx : RelV x u) (hs : Src X.K H x B)
    (hB : ∀ xs, B xs → xs.length < 64 ∧ ∃ key : V → Int × List Int, (xs.map key).Nodup ∧ KeyF X pins σ X.A.in1.in1 (.ref f) H xs key ∧
      ∀ D H2 s2 zs, H D = none → Inv X pins σ H2 s2 → Same H H2 → H2 D = some (.lst zs) → zs.Perm xs → zs.Pairwise (fun x y => klt (key y) (key x) = true) → Q (.ref D) s2) :
    wpAny (model X.prog X.w) X.A (call (.builtin "sorted") [u] [(Str.ofString "key", .ref f), (Str.ofString "reverse", .bool true)]) Q E s := by
  refine call_function_entry_kw kind_sorted plain_sorted entry_sorted (ksk_s2 _ _ _) ?_
  unfold Builtin.«sorted»
  refine wpAny_bind (m := checkCount "sorted" 1 1 _) (wpAny_pure ?_)
  refine wpAny_bind (collect_src (A := X.A.in1) hh I rx hs fun h' tk its xs src rv hk' hz => ?_)
  obtain ⟨h64, key, nd, kf, h⟩ := hB xs src
  have I1 : Inv X pins σ H { s with heap := h', toks := tk } := I.kept hk'
  have I2 := I1.lnew (t' := tk) rv hz
  refine wpAny_bind (wpAny_newList ?_ (by rw [← rv.length]; exact hz))
  refine wpAny_bind (wpAny_holding (wpAny_call_entry_kw slot_list_sort ⟨_, Heap.get?_push_size _ rfl, rfl⟩ entry_list_sort ?_ (ksk_l2 _ _ _)))
  rw [ksk_t2]
  refine sort_tree (key := key) hu I2 I1.fresh (Same.new I1.fresh) upd_same h64 nd kf fun H2 s2 zs I3 sm q pm pw => ⟨_, rfl, wpAny_pure ⟨_, rfl, h _ H2 s2 zs I1.fresh I3 sm q pm pw⟩⟩
end
end L2

namespace L2
open PySem PySem.Spec PyProof.Rows PySem.W
/-- sorted(e, key=f, reverse=True), f a def whose answers are (int, tuple of ints): what is asked of the items -/
def SortB (K : PySem.W.Frag) (sp : Sp) (H1 : Hp) (Q : VK) (xs : List V) : Prop := xs.length < 64 ∧ ∃ key : V → Int × List Int, (xs.map key).Nodup ∧ (∀ y ∈ xs, ∀ H2, Same H1 H2 → sp [y] H2 (fun z H3 => Same H2 H3 ∧ KeyR K H3 z (key y)) E0) ∧
  ∀ D H2 zs, H1 D = none → Same H1 H2 → H2 D = some (.lst zs) → zs.Perm xs → zs.Pairwise (fun x y => klt (key y) (key x) = true) → Q (.ref D) H2
def tSort (K : PySem.W.Frag) (sp : Sp) (te : TE) : TE := fun σ H Q => te σ H fun x H1 => Src K H1 x (SortB K sp H1 Q)
section
variable {X : Cx} {p pos kp k1 k2 kp2 : Pos} {e : Expr} {te : TE}
theorem key_fn {pins : List (Addr × Obj)} {σ : St} {A : Around} {k : Nat} {sp : Sp} {f : Addr} {fd : FuncData} {ps : List Str} {H0 : Hp} {xs : List V} {key : V → Int × List Int} (F : FnOk X.prog X.w X.K X.mg X.base CX0 k f fd ps sp) (hb : Binds X.K fd ps []) (hr : Room k X.A.in1.in1)
    (h : ∀ y ∈ xs, ∀ H2, Same H0 H2 → sp [y] H2 (fun z H3 => Same H2 H3 ∧ KeyR X.K H3 z (key y)) E0) : KeyF X pins σ X.A.in1.in1 (.ref f) H0 xs key := by
  intro x hx u H1 s1 rx I sm
  have h' := h x hx H1 sm
  have r2 : Vals [x] [u] := .cons rx .nil
  have hl : ([u] ++ []).length = ps.length := F.len _ _ _ _ h'
  refine wpAny_call (codeAny_mono (F.run X.A.in1.in1 X.stack s1 H1 ⟨[u], []⟩ [u] [x] _ E0 hr I.env0.in1.in1 (hb s1 [u] I.kIn hl) r2 h') fun r s' hq => ?_)
  cases r with
  | error e => exact hq
  | ok fl =>
    cases fl with
    | ret v =>
      obtain ⟨y, H2, I2, ry, q1, q2⟩ := I.after hq
      exact ⟨y, H2, I2, ry, q1, q2⟩
    | next => exact False.elim hq
    | brk => exact False.elim hq
    | cont => exact False.elim hq
theorem pe_sortK (T : Blt X.mg) {x : Str} {k : Nat} {sp : Sp} {j : Nat} (F : FnB X.prog X.w X.K X.mg X.base k x sp) (hr : Room (k + 2) X.A) (he : PE X e te) (hg : Gl X "sorted" := by rfl) (hgx : Gl X x := by rfl) (hdb : (x == ("__debug__" : Str)) = false := by decide)
    (hs : starEach [e] X.env = [(false, eval e X.env)] := by rfl) :
    PE X (.Call (.Name "sorted" p) [e] [⟨some "key", .Name x kp, k1⟩, ⟨some "reverse", .Constant (.bool true) j kp2, k2⟩] pos) (tSort X.K sp te) := by
  obtain ⟨f, fd, ps, F', hm, hk, hb⟩ := F.ex
  intro pins s σ H Q I h
  refine wpAny_Call_Name_kw (ld_blt I hg T.sorted boot_sorted ?_)
  refine callWith_kw ?_ (by rw [hs]; rfl) (by rw [hs]; rfl)
  refine thn ((pa_cons he pa_nil hs) pos pins s σ H (fun vs H1 => match vs with | [v] => Src X.K H1 v (SortB X.K sp H1 Q) | _ => False) I h) fun us s1 ⟨vs, H1, I1, r1, q1⟩ => ?_
  match vs, r1, q1 with
  | [v], r1, q1 =>
    obtain ⟨u, rfl, ru⟩ := r1.one
    refine thn ((pk_cons (pe_glob (v := .ref f) hgx hm rfl hdb) (pk_cons pe_bl pk_nil)) pos pins s1 σ H1 (fun zs H2 => zs = [V.ref f, .bl true] ∧ H2 = H1) I1 ⟨rfl, rfl⟩) fun ws s2 ⟨zs, H2, I2, r2, e1, e2⟩ => ?_
    subst e1 e2
    obtain ⟨w1, w2, rfl, rw1, rw2⟩ := r2.two
    cases rw1
    cases rw2
    refine call_sorted (f := f) hr.hd hr.in1.in1.units I2 ru q1 fun xs ⟨h64, key, nd, hk1, hq⟩ => ⟨h64, key, nd, key_fn (A := X.A) F' hb hr.in1.in1 hk1, fun D H3 s3 zs nD I3 sm q pm pw => ⟨.ref D, H3, I3, rfl, hq D H3 zs nD sm q pm pw⟩⟩
end
end L2

namespace L2
open PySem PySem.Spec PyProof.Rows PySem.W
/-! ### a dict walked by a loop or a comprehension: it stands still from then on -/
def Itd (d : Addr) (o : Obj) (u : HO) (vs : List V) : It := ⟨fun i H => H d = some (.frz o u) ∧ i < vs.length, fun i H x H' => H' = H ∧ vs[i]? = some x, fun i H => H d = some (.frz o u) ∧ vs.length ≤ i⟩
theorem turn_dict {P : Program} {w : World} {K : PySem.W.Frag} {tg : Expr} {d it : Addr} {o : Obj} {u : HO} {es : Array DictEntry} {ep : Nat} {vs : List V} (hx : o.ExactDict) (hd : o.data = .dict es ep) (rv : Vals vs (es.toList.map (·.key))) :
    Turn P w K tg (Itd d o u vs) [it] it (fun i h => h.IsKeyIter it d i es.size ep) where
  mem := by simp
  obj := fun i h st b hb => by
    have e : b = it := by simpa using hb
    subst e
    obtain ⟨o, e, c, d⟩ := st
    exact ⟨o, e, fun v z => by rw [d] at z; cases z⟩
  keep := fun i h h' st k => st.at fun o e => k it (by simp) o e
  item := by
    intro X hP hw hK hc i pins s σ H E I hf st hg
    subst hP hw hK
    obtain ⟨hD, hi⟩ := (show H d = some (.frz o u) ∧ i < vs.length from hg)
    have hl : vs.length = es.size := by rw [rv.length]; simp
    have ho : s.heap.get? d = some o := (show ObjOk X.prog X.w H s.heap d (.frz o u) from I.hok d _ hD).1
    obtain ⟨f0, f1, f2, f3, f4, f5⟩ := hf it (by simp)
    refine next_raw (I.ok.hd hc) st ⟨o, ho, hx, hd⟩ (fun hi' h' st' sb => ?_) fun hge => absurd hi (by omega)
    have I1 : Inv X pins σ H { s with heap := h' } := I.turned (t' := s.toks) (fun b o hb e => (sb.2 b hb).trans e) f0 f1 f3 f4 f5
    obtain ⟨x, hxi⟩ : ∃ x, vs[i]? = some x := ⟨_, List.getElem?_eq_getElem hi⟩
    obtain ⟨v, hv, rx⟩ := rv.get hxi
    have hv' : es[i].key = v := by
      rw [List.getElem?_map, Array.getElem?_toList, Array.getElem?_eq_getElem hi'] at hv
      exact Option.some.inj hv
    obtain ⟨ob, e, c, dd⟩ := id st'
    exact ⟨_, rfl, go_of (s := { s with heap := h' }) e c dd (by decide) ⟨x, H, I1, by rw [hv']; exact rx, ⟨rfl, hxi⟩, st', fun b hb => (hf b hb).1⟩⟩
  done := by
    intro X hP hw hK hc i pins s σ H E I hf st hg
    subst hP hw hK
    obtain ⟨hD, hi⟩ := (show H d = some (.frz o u) ∧ vs.length ≤ i from hg)
    have hl : vs.length = es.size := by rw [rv.length]; simp
    have ho : s.heap.get? d = some o := (show ObjOk X.prog X.w H s.heap d (.frz o u) from I.hok d _ hD).1
    obtain ⟨f0, f1, f2, f3, f4, f5⟩ := hf it (by simp)
    exact next_raw (I.ok.hd hc) st ⟨o, ho, hx, hd⟩ (fun hi' => absurd hi' (by omega)) fun _ h' eb => ⟨rfl, I.turned (t' := s.toks) (fun b o hb e => eb b o hb e) f0 f1 f3 f4 f5⟩
  self := fun _ _ _ _ _ st h => wpAny_pyIter_keyiter st h
def iDict (tl : TE) : TI := fun σ H R => tl σ H fun x H1 => ∃ d kvs, x = .ref d ∧ H1 d = some (.dT kvs) ∧ ∀ o as, Paired (fun (p : List Key × V) (a : Addr) => H1 a = some (.tup (p.1.map kV))) kvs as → R (Itd d o (.dT kvs) (as.map V.ref)) (upd H1 d (.frz o (.dT kvs)))
theorem dict_keys {P : Program} {w : World} {H : Hp} {kvs : List (List Key × V)} {m : List (List Key × Addr × Value)} (q : Paired (fun (p : List Key × V) (q : List Key × Addr × Value) => p.1 = q.1 ∧ H q.2.1 = some (.tup (p.1.map kV)) ∧ RelV p.2 q.2.2) kvs m) :
    Paired (fun (p : List Key × V) (a : Addr) => H a = some (.tup (p.1.map kV))) kvs (m.map (·.2.1)) ∧ Vals ((m.map (·.2.1)).map V.ref) ((m.map (entryOfKey (tupleKind (mixKind P w)))).map (·.key)) := by
  induction q with
  | nil => exact ⟨.nil, .nil⟩
  | cons hq t ih => exact ⟨.cons hq.2.1 ih.1, .cons rfl ih.2⟩
theorem pi_dict {X : Cx} {tg l : Expr} {tl : TE} (hl : PE X l tl) : PI X tg l (iDict tl) := by
  intro pins s σ H R I h
  refine thn (hl pins s σ H _ I h) fun v s1 ⟨x, H1, I1, r1, q1⟩ => ?_
  obtain ⟨d, kvs, e, hd, q⟩ := q1
  subst e
  cases r1
  obtain ⟨hz, hm, es3, kt, o, es, ep, h1, h2, h3, h4, h5⟩ := id (show ObjOk X.prog X.w H1 s1.heap d (.dT kvs) from I1.hok d _ hd)
  obtain ⟨k1, k2⟩ := dict_keys (P := X.prog) (w := X.w) kt
  have go : ∀ {l : List (List Key × V)} {m : List (List Key × Addr × Value)}, Paired (fun (p : List Key × V) (q : List Key × Addr × Value) => p.1 = q.1 ∧ H1 q.2.1 = some (.tup (p.1.map kV)) ∧ RelV p.2 q.2.2) l m →
      Paired (fun (p : List Key × V) (q : List Key × Addr × Value) => p.1 = q.1 ∧ upd H1 d (.frz o (.dT kvs)) q.2.1 = some (.tup (p.1.map kV)) ∧ RelV p.2 q.2.2) l m := by
    intro l m q
    induction q with
    | nil => exact .nil
    | cons hq t ih => exact .cons ⟨hq.1, by rw [upd_ne (ne_of hq.2.1 hd (by intro z; cases z))]; exact hq.2.1, hq.2.2⟩ ih
  have I2 : Inv X pins σ (upd H1 d (.frz o (.dT kvs))) { s1 with heap := s1.heap, toks := s1.toks } := I1.write (x := d) (e := d) (by rw [hd]; exact trivial) (.inl rfl) (fun _ _ _ z => z) ⟨_, h1⟩ ⟨h1, hz, hm, es3, go kt, o, es, ep, h1, h2, h3, h4, h5⟩
  rw [← h4] at k2
  refine iter_raw hm ⟨o, h1, h2, h3⟩ ?_
  refine ⟨s1.heap.objs.size, [s1.heap.objs.size], _, _, _, rfl, I2.kept (t' := s1.toks) fun b o e => Heap.get?_push_of_some _ e, turn_dict (u := .dT kvs) h2 h3 k2, ⟨_, Heap.get?_push_size _ rfl, rfl, rfl⟩, fun b hb => ?_, q o _ k1⟩
  have e : b = s1.heap.objs.size := by simpa using hb
  subst e
  exact I2.fpOk (Nat.le_refl _) (I2.hok.fresh (Nat.le_refl _))
end L2

namespace L2
open PySem PySem.Spec PyProof.Rows PySem.W
theorem hu1 {k : Nat} {A : Around} (hr : Room k A) : A.units + 1 < cLine := by have := hr.un; omega
theorem kpi_dict {X : Cx} {tg e : Expr} {te : TE} (K : PySem.W.Frag) (hK : X.K = K) (hl : PE X e te) : PI X tg e (iDict te) := pi_dict hl
end L2

namespace L2
open PySem PySem.Spec PyProof.Rows PySem.W
/-! ### a dict whose keys are tuples of ints, as a list of pairs -/
def kI (k : List Int) : List Key := k.map Sum.inl
theorem kI_inj {a b : List Int} (h : kI a = kI b) : a = b := by
  induction a generalizing b with
  | nil => cases b with
    | nil => rfl
    | cons y b => cases h
  | cons x a ih => cases b with
    | nil => cases h
    | cons y b =>
      have h' : (Sum.inl x : Key) :: kI a = Sum.inl y :: kI b := h
      injection h' with h1 h2
      injection h1 with h1
      rw [h1, ih h2]
theorem kI_kV (k : List Int) : (kI k).map kV = k.map V.int := by
  unfold kI
  rw [List.map_map]
  rfl
section
variable {α : Type}
def aval (m : List (List Int × α)) (k : List Int) : Option α := (m.find? fun p => decide (p.1 = k)).map (·.2)
def aput (m : List (List Int × α)) (k : List Int) (x : α) : List (List Int × α) := if (aval m k).isSome then m.map (fun p => if p.1 = k then (p.1, x) else p) else m ++ [(k, x)]
theorem aval_nil (k : List Int) : aval ([] : List (List Int × α)) k = none := rfl
theorem aval_pos {p : List Int × α} {r : List (List Int × α)} {k : List Int} (e : p.1 = k) : aval (p :: r) k = some p.2 := by simp [aval, List.find?_cons, e]
theorem aval_neg {p : List Int × α} {r : List (List Int × α)} {k : List Int} (e : ¬ p.1 = k) : aval (p :: r) k = aval r k := by simp [aval, List.find?_cons, e]
theorem aval_none {k : List Int} : ∀ {m : List (List Int × α)}, aval m k = none ↔ ¬ k ∈ m.map (·.1)
  | [] => by simp [aval_nil]
  | p :: r => by
    by_cases e : p.1 = k
    · rw [aval_pos e]
      simp [e]
    · rw [aval_neg e, aval_none (m := r), List.map_cons, List.mem_cons]
      exact ⟨fun h z => z.elim (fun z => e z.symm) h, fun h z => h (.inr z)⟩
theorem aval_mem {k : List Int} {x : α} : ∀ {m : List (List Int × α)}, aval m k = some x → (k, x) ∈ m
  | p :: r, h => by
    by_cases e : p.1 = k
    · rw [aval_pos e] at h
      have : p = (k, x) := Prod.ext e (Option.some.inj h)
      rw [this]; simp
    · rw [aval_neg e] at h
      exact List.mem_cons.mpr (.inr (aval_mem h))
theorem aval_of {k : List Int} {x : α} : ∀ {m : List (List Int × α)}, (m.map (·.1)).Nodup → (k, x) ∈ m → aval m k = some x
  | p :: r, hn, h => by
    have hn' : (p.1 :: r.map (·.1)).Nodup := hn
    obtain ⟨h1, h2⟩ := List.nodup_cons.mp hn'
    rcases List.mem_cons.mp h with z | z
    · rw [← z]
      exact aval_pos rfl
    · have : k ∈ r.map (·.1) := List.mem_map.mpr ⟨_, z, rfl⟩
      rw [aval_neg (fun e => h1 (by rw [e]; exact this))]
      exact aval_of h2 z
theorem aput_keys (m : List (List Int × α)) (k : List Int) (x : α) : (aput m k x).map (·.1) = if (aval m k).isSome then m.map (·.1) else m.map (·.1) ++ [k] := by
  unfold aput
  split
  · rw [List.map_map]
    apply List.map_congr_left
    intro p _
    show (if p.1 = k then (p.1, x) else p).1 = p.1
    split <;> rfl
  · rw [List.map_append]; rfl
theorem aput_nodup {m : List (List Int × α)} {k : List Int} {x : α} (h : (m.map (·.1)).Nodup) : ((aput m k x).map (·.1)).Nodup := by
  rw [aput_keys]
  split
  · exact h
  · rename_i hs
    have hn : aval m k = none := by
      cases e : aval m k with
      | none => rfl
      | some y => rw [e] at hs; exact absurd rfl hs
    exact List.nodup_append.mpr ⟨h, by simp, fun a ha b hb => by
      rw [List.mem_singleton.mp hb]
      intro z
      exact aval_none.mp hn (by rw [← z]; exact ha)⟩
theorem aput_mem {m : List (List Int × α)} {k : List Int} {x : α} {p : List Int × α} (h : p ∈ aput m k x) : p = (k, x) ∨ p ∈ m := by
  unfold aput at h
  split at h
  · obtain ⟨q, hq, e⟩ := List.mem_map.mp h
    by_cases hk : q.1 = k
    · rw [if_pos hk] at e
      exact .inl (by rw [← e, hk])
    · rw [if_neg hk] at e
      exact .inr (by rw [← e]; exact hq)
  · rcases List.mem_append.mp h with z | z
    · exact .inr z
    · exact .inl (List.mem_singleton.mp z)
theorem aput_len (m : List (List Int × α)) (k : List Int) (x : α) : (aput m k x).length ≤ m.length + 1 := by
  unfold aput
  split
  · rw [List.length_map]; omega
  · rw [List.length_append]; simp
/-- the dict holds the pairs -/
def DictR (R : V → α → Prop) (kvs : List (List Key × V)) (m : List (List Int × α)) : Prop := Paired (fun (p : List Key × V) (q : List Int × α) => p.1 = kI q.1 ∧ R p.2 q.2) kvs m
theorem DictR.mono {R R' : V → α → Prop} (h : ∀ v x, R v x → R' v x) : ∀ {kvs : List (List Key × V)} {m : List (List Int × α)}, DictR R kvs m → DictR R' kvs m
  | _, _, .nil => .nil
  | _, _, .cons q r => .cons ⟨q.1, h _ _ q.2⟩ (DictR.mono h r)
theorem DictR.val {R : V → α → Prop} (k : List Int) : ∀ {kvs : List (List Key × V)} {m : List (List Int × α)}, DictR R kvs m → (valV kvs (kI k) = none ∧ aval m k = none) ∨ ∃ v x, valV kvs (kI k) = some v ∧ aval m k = some x ∧ R v x
  | _, _, .nil => .inl ⟨rfl, rfl⟩
  | p :: _, q' :: _, .cons q r => by
    by_cases e : q'.1 = k
    · exact .inr ⟨p.2, q'.2, valV_pos (by rw [q.1, e]), aval_pos e, q.2⟩
    · rw [valV_neg (fun z => e (kI_inj (q.1.symm.trans z))), aval_neg e]
      exact DictR.val k r
theorem DictR.put {R : V → α → Prop} {k : List Int} {v : V} {x : α} (hx : R v x) {kvs : List (List Key × V)} {m : List (List Int × α)} (h : DictR R kvs m) : DictR R (putK kvs (kI k) v) (aput m k x) := by
  unfold putK aput
  rw [valV_any]
  rcases h.val k with ⟨e1, e2⟩ | ⟨v', x', e1, e2, _⟩
  · rw [e1, e2]
    have go : ∀ {kvs : List (List Key × V)} {m : List (List Int × α)}, DictR R kvs m → DictR R (kvs ++ [(kI k, v)]) (m ++ [(k, x)]) := by
      intro kvs m h
      induction h with
      | nil => exact .cons ⟨rfl, hx⟩ .nil
      | cons q r ih => exact .cons q ih
    exact go h
  · rw [e1, e2]
    have go : ∀ {kvs : List (List Key × V)} {m : List (List Int × α)}, DictR R kvs m → DictR R (kvs.map fun kv => if kv.1 = kI k then (kv.1, v) else kv) (m.map fun p => if p.1 = k then (p.1, x) else p) := by
      intro kvs m h
      induction h with
      | nil => exact .nil
      | @cons p q ps qs hq r ih =>
        refine .cons ?_ ih
        dsimp only
        by_cases e : q.1 = k
        · rw [if_pos (by rw [hq.1, e]), if_pos e]
          exact ⟨hq.1, hx⟩
        · rw [if_neg (fun z => e (kI_inj (hq.1.symm.trans z))), if_neg e]
          exact hq
    exact go h
/-- the keys' tuples, in their order -/
theorem DictR.tups {R : V → α → Prop} {H : Hp} : ∀ {kvs : List (List Key × V)} {m : List (List Int × α)} {as : List Addr}, DictR R kvs m → Paired (fun (p : List Key × V) (a : Addr) => H a = some (.tup (p.1.map kV))) kvs as →
    Paired (fun (a : Addr) (q : List Int × α) => H a = some (.tup (q.1.map V.int))) as m
  | _, _, _, .nil, .nil => .nil
  | _, _, _, .cons q r, .cons t ts => .cons (by rw [q.1, kI_kV] at t; exact t) (DictR.tups r ts)
end
/-! ### falling lists of the same members are the same -/
theorem fall_unique {β : Type} {lt : β → β → Bool} (irr : ∀ a, lt a a = false) (tr : ∀ a b c, lt a b = true → lt b c = true → lt a c = true) : ∀ {xs ys : List β}, xs.Perm ys → xs.Pairwise (fun a b => lt b a = true) → ys.Pairwise (fun a b => lt b a = true) → xs = ys
  | [], ys, p, _, _ => (List.nil_perm.mp p).symm
  | x :: xs, [], p, _, _ => by have := p.length_eq; simp at this
  | x :: xs, y :: ys, p, h1, h2 => by
    obtain ⟨a1, a2⟩ := List.pairwise_cons.mp h1
    obtain ⟨b1, b2⟩ := List.pairwise_cons.mp h2
    have e : x = y := by
      have mx : x ∈ y :: ys := p.mem_iff.mp (by simp)
      have my : y ∈ x :: xs := p.mem_iff.mpr (by simp)
      rcases List.mem_cons.mp mx with z | z
      · exact z
      · rcases List.mem_cons.mp my with w | w
        · exact w.symm
        · have c1 := b1 x z
          have c2 := a1 y w
          have := tr _ _ _ c1 c2
          rw [irr] at this
          cases this
    subst e
    rw [fall_unique irr tr ((List.perm_cons x).mp p) a2 b2]
end L2

namespace L2
open PySem PySem.Spec PyProof.Rows PySem.W
/-! ### sets of ints: made of a list, and how many -/
variable {X : Cx}
section
variable {K : PySem.W.Frag} {e : Expr} {te : TE} {p pos : Pos}
end
/-! the number of unlike ones: 1 at most where all are alike -/
end L2

namespace L2
open PySem PySem.Spec PyProof.Rows PySem.W
/-! ### a dict's pairs walked -/
section
variable {prog : Program} {w : World} {A : Around} {E : Value → Shared → Prop} {s : Shared} {d it v : Addr} {es : Array DictEntry} {ep i : Nat}
end
end L2

namespace L2
open PySem PySem.Spec PyProof.Rows PySem.W
/-! ### d.items() in a loop or a comprehension: the dict stands still from then on -/
end L2

namespace L2
open PySem PySem.Spec PyProof.Rows PySem.W
/-! ### xs[::-1] -/
section
variable {X : Cx} {K : PySem.W.Frag} {e st : Expr} {te : TE} {ts : TO} {pos p2 : Pos}
def tRev (K : PySem.W.Frag) (te : TE) (ts : TO) : TE := fun σ H Q => te σ H fun x H1 => ts σ H1 fun k H2 => k = some (-1) ∧ ∃ a xs, x = .ref a ∧ SqL K H2 a xs ∧ ∀ p, H2 p = none → Q (.ref p) (upd H2 p (.lst xs.reverse))
theorem Vals.rev {xs : List V} {us : List Value} (r : Vals xs us) : Vals xs.reverse us.reverse := by
  induction r with
  | nil => exact .nil
  | cons a r ih =>
    rw [List.reverse_cons, List.reverse_cons]
    exact ih.append (.cons a .nil)
/-- a[::-1] of a list -/
theorem pe_rev (hK : X.K = K) (he : PE X e te) (hs : PO X (some st) ts) : PE X (.Subscript e (.Slice none none (some st) p2) pos) (tRev K te ts) := by
  subst hK
  intro pins s σ H Q I h
  refine Subscript_ (thn (he pins s σ H _ I h) fun v s1 ⟨x, H1, I1, r1, q1⟩ => ?_)
  refine wpAny_Slice ?_
  rw [evalPart_none]
  refine wpAny_pure ?_
  refine wpAny_pure ?_
  refine thn (hs pins s1 σ H1 _ I1 q1) fun vs s3 ⟨k, H3, I3, ps, q3⟩ => ?_
  obtain ⟨rfl, a, xs, rfl, hx, q⟩ := q3
  have I4 : Inv X pins σ H3 { s3 with heap := s3.heap.push { cls := .type "slice", data := .fields #[.none, .none, vs] } } := I3.kept (t' := s3.toks) fun b ob q => Heap.get?_push_of_some _ q
  cases r1
  obtain ⟨its, r, ht, hz⟩ := I4.list hx
  have hlen := r.length
  show wpAny (model X.prog X.w) X.A (subscriptTail e (.Slice none none (some st) p2) (.ref a) (.ref s3.heap.objs.size)) (EP X pins σ Q) X.xe { s3 with heap := s3.heap.push { cls := .type "slice", data := .fields #[.none, .none, vs] } }
  refine tail_any (ops := [.ref a, .ref s3.heap.objs.size]) ht.isList.typeIs slot_list_getitem.lookup ?_ (by with_unfolding_all rfl)
  refine wpAny_getItem_list_slice ht.isList (Heap.IsSliceOf.new ..) .none .none ps (by simp) ?_ (by rw [List.size_toArray] <;> omega)
  rw [krv_pick]
  refine ⟨.ref _, _, I4.laid (o := .lst xs.reverse) (fun b ob q => Heap.get?_push_of_some _ q) (Nat.le_refl _) ?_, rfl, q _ (I4.hok.fresh (Nat.le_refl _))⟩
  exact ⟨by rw [List.length_reverse]; exact hz, _, 0, r.rev, Heap.get?_push_size _ rfl⟩
end
/-- [te for a, b in zip(xs, ys)]; each turn may lay new things -/
theorem comp_zipS {t1 t2 : Bool} {K K' : PySem.W.Frag} {a b : Addr} {xs ys : List V} {te : TE} {Q : VK} {rest : St} {src : List (Option Nat)} {σ : St} {H0 : Hp} (f : V → V → V) (hσ : srcSt src σ = none :: none :: rest) (hx : SqV t1 K H0 a xs) (hy : SqV t2 K H0 b ys) (hl : xs.length ≤ sizeLine)
    (he : ∀ (i : Nat) x y H (R : VK), xs[i]? = some x → ys[i]? = some y → Same H0 H → (∀ H', Same H H' → R (f x y) H') → te (some x :: some y :: rest) H R)
    (hd : ∀ acc H, H0 acc = none → Same H0 H → H acc = some (.lst (List.zipWith f xs ys)) → Q (.ref acc) H) :
    CompEnd (Itz t1 t2 K a b) src (gTup K' 2 (gCons (gName 0) (gCons (gName 1) gNil))) tYes te σ H0 Q := by
  intro acc hacc
  rw [hσ]
  have hlen : (List.zipWith f xs ys).length = min xs.length ys.length := List.length_zipWith
  refine comp_gen (n := min xs.length ys.length) (fun i zs σ H => Same H0 H ∧ zs = (List.zipWith f xs ys).take i ∧ ∃ u v, σ = u :: v :: rest) (by omega) ⟨Same.new hacc, rfl, none, none, rfl⟩ ?_ ?_ ?_ ?_
  · rintro i zs σ H hi hz ⟨sm, _⟩
    exact ⟨xs, ys, xs[i]'(by omega), ys[i]'(by omega), sm.sqV hx, sm.sqV hy, by simp, by simp⟩
  · rintro zs σ H hz ⟨sm, _⟩
    refine ⟨xs, ys, sm.sqV hx, sm.sqV hy, ?_⟩
    omega
  · rintro i zs σ H x H' hi hz hzl ⟨sm, ez, u, v, rfl⟩ ⟨p, x1, y1, rfl, hp, rfl, gx, gy⟩
    have hx1 := gx xs (sm.sqV hx)
    have hy1 := gy ys (sm.sqV hy)
    have pacc : acc ≠ p := ne_of_none hz hp
    have hp0 : H0 p = none := sm.free hp
    refine ⟨p, [x1, y1], rfl, SqT.of upd_same, rfl, x1, [y1], rfl, y1, [], rfl, rfl, ?_⟩
    show te (some x1 :: some y1 :: rest) _ _
    refine he i x1 y1 _ _ hx1 hy1 (sm.put hp0) fun H2 s2 => ?_
    refine ⟨zs, s2 _ _ (by rw [upd_ne pacc]; exact hz), by omega, zs ++ [f x1 y1], upd_same, by rw [List.length_append, List.length_singleton]; omega, ((sm.put hp0).trans s2).put hacc, ?_, _, _, rfl⟩
    rw [take_zipWith f xs ys i x1 y1 hx1 hy1, ez]
  · rintro zs σ H hz hzl ⟨sm, ez, _⟩
    refine hd acc H hacc sm ?_
    rw [hz, ez, List.take_of_length_le (by omega)]
end L2

set_option exponentiation.threshold 5000
namespace K
open PySem L2 PyProof.Rows
def top (i : Nat) : Stmt := PySem.Challenge.pw_relationladder_k11_sums_known.main.body.getD i (.Pass ⟨0, 0, 0, 0⟩)
abbrev s_is_whole_number : Stmt := top 6
abbrev s_is_pair : Stmt := top 7
abbrev s_Fractions_is_number : Stmt := inClass (top 12) 1
abbrev s_Fractions_of : Stmt := inClass (top 12) 2
abbrev s_Rests___init__ : Stmt := inClass (top 13) 0
abbrev s_Rests_is_number : Stmt := inClass (top 13) 2
abbrev s_Rests_of : Stmt := inClass (top 13) 3
abbrev s_is_prime : Stmt := top 14
abbrev s_greatest_divisor : Stmt := top 15
abbrev s_inverse : Stmt := top 16
abbrev s_is_product : Stmt := top 18
abbrev s_degree : Stmt := top 19
abbrev s_height : Stmt := top 20
abbrev s_is_above : Stmt := top 21
abbrev s_Ring___init__ : Stmt := inClass (top 24) 0
abbrev s_Ring_numbers : Stmt := inClass (top 24) 1
abbrev s_Ring_letters : Stmt := inClass (top 24) 2
abbrev s_is_sum : Stmt := top 25
abbrev s_is_part : Stmt := top 26
abbrev s__law_truth : Stmt := top 28
abbrev s__law_cell : Stmt := top 29
abbrev s__law_bag : Stmt := top 30
abbrev s__law_take : Stmt := top 31
abbrev s__law_great : Stmt := top 32
abbrev s__law_signed : Stmt := top 33
abbrev s__law_whole : Stmt := top 34
abbrev s__law_low : Stmt := top 35
abbrev s__law_is_prime : Stmt := top 36
abbrev s__law_prime : Stmt := top 37
abbrev s__law_numbers : Stmt := top 38
abbrev s__law_plus : Stmt := top 39
abbrev s__law_nought : Stmt := top 40
abbrev s__law_unit : Stmt := top 41
abbrev s__law_number : Stmt := top 42
abbrev s__law_key : Stmt := top 43
abbrev s__law_sum : Stmt := top 44
abbrev s__law_number_like : Stmt := top 45
abbrev s__law_sum_like : Stmt := top 46
abbrev s__law_exponents : Stmt := top 47
abbrev s__law_parts : Stmt := top 48
abbrev s__law_ring : Stmt := top 49
abbrev s__law_spoilt : Stmt := top 50
abbrev s_law : Stmt := top 51
theorem nd_0 : (["_law_part", "_law_number_here"] : List Str).Nodup := by decide +kernel
theorem nd_1 : (["_law_product", "_law_come", "_law_prime_here"] : List Str).Nodup := by decide +kernel
theorem nd_2 : (["often"] : List Str).Nodup := by decide +kernel
theorem nd_3 : (["part", "ring"] : List Str).Nodup := by decide +kernel
theorem nd_4 : (["part", "behind"] : List Str).Nodup := by decide +kernel
theorem nd_5 : (["_law_number_here"] : List Str).Nodup := by decide +kernel
theorem nd_6 : (["_law_letter"] : List Str).Nodup := by decide +kernel
/-! the draws: a cell, a bag, a take -/
theorem smallAbs {j : Int} (h : 0 ≤ j) (h2 : j < 2 ^ 63) : j.natAbs < 2 ^ 4000 := by
  have h3 : j.natAbs < 2 ^ 63 := by omega
  exact Nat.lt_of_lt_of_le h3 (Nat.pow_le_pow_right (by decide) (by decide))
theorem smallDiv {i j : Int} (h : 0 < j) (h2 : j < 2 ^ 63) : CDivA i j := ⟨by omega, smallAbs (by omega) h2⟩
theorem at_int (ns : List Int) {k : Int} (h0 : 0 ≤ k) (h1 : k < ns.length) : ∃ z, atI (ns.map V.int) k = some (V.int z) := by
  obtain ⟨n, rfl⟩ := Int.eq_ofNat_of_zero_le h0
  have hn : n < ns.length := by omega
  exact ⟨ns[n], atI_nat (by rw [List.getElem?_map, List.getElem?_eq_getElem hn]; rfl)⟩
def spCell (K : PySem.W.Frag) : Sp := fun vs H Q _ => ∃ (a : Addr) (ns : List Int) (k : Int), vs = [.ref a, .int k] ∧ SqL K H a (ns.map V.int) ∧ ns.length ≤ 63 ∧ 0 ≤ k ∧ k ≤ 100 ∧ ∀ r : Int, Q (.int r) H
def stepA (a b : Int) : Int := (a * 48271 + 7919 * b * b + 17) % 2147483647
def BagOk (a b : Int) (k : Nat) : Prop := b = 0 ∨ (0 ≤ a ∧ a < 2147483647 ∧ 0 < b ∧ b ≤ k)
def spBag (K : PySem.W.Frag) : Sp := fun vs H Q _ => ∃ (a : Addr) (ns : List Int) (k : Int), vs = [.ref a, .int k] ∧ SqL K H a (ns.map V.int) ∧ ns.length ≤ 63 ∧ 0 ≤ k ∧ k ≤ 99 ∧
  ∀ (p : Addr) (a b : Int), H p = none → BagOk a b 100 → Q (.ref p) (upd H p (.lst [.int a, .int b]))
def spTake : Sp := fun vs H Q _ => ∃ (p : Addr) (a b m : Int) (k : Nat), vs = [.ref p, .int m] ∧ H p = some (.lst [.int a, .int b]) ∧ BagOk a b k ∧ k ≤ 1000000 ∧ 0 < m ∧ m.natAbs < 2 ^ 4000 ∧
  ∀ r a' b', 0 ≤ r → r < m → BagOk a' b' (k + 1) → Q (.int r) (upd H p (.lst [.int a', .int b']))
section
variable {P : Program} {w : World} {K : PySem.W.Frag} {mg : Str → Option Value} {base : Heap}
theorem sc__law_cell : FnScope ["_law_script", "_law_k", "_law_seed", "_law_some"] ["_law_script", "_law_k"] (defScope s__law_cell) := ⟨rfl, rfl, rfl, by decide +kernel, rfl, by decide +kernel, by decide +kernel⟩
theorem ok_cell {f : Addr} {fd : FuncData} (F : Fun K "_law_cell" "_law_cell" s__law_cell f fd) (T : Blt mg) : FnOk P w K mg base CX0 1 f fd ["_law_script", "_law_k"] (spCell K) := by
  refine F.ok sc__law_cell (fun vs H Q E h => ?_) (fun cdv A outer s H vs Q E hr h => ?_)
  · obtain ⟨a, ns, k, rfl, _⟩ := h
    rfl
  · obtain ⟨a, ns, k, rfl, hS, hl, hk0, hk1, q⟩ := h
    have hln : ((ns.map V.int).length : Int) = ns.length := by rw [List.length_map]
    refine ⟨_, (pss_cons (ps_if (pt_cmpR op_lt (pv 1) (kpl_len K T (pv 0)) (nomark _))
(pss_one (ps_ret (pe_ix (kix_list K rfl) (pv 0) (pv 1) (fun _ _ => rfl))))
pss_nil)
(pss_cons (ps_set (i := 2) sc__law_cell.nd rfl (Or.inl rfl) (pe_op op_mul (pv 1) pe_int))
(pss_cons (ps_if (pt_cmpR op_gt (kpl_len K T (pv 0)) pe_int (nomark _))
(pss_one (ps_set (i := 2) sc__law_cell.nd rfl (Or.inl rfl) (pe_op op_add (pv 2) (pe_op op_mod (pe_ix (kix_list K rfl) (pv 0) (pe_op op_mod (pv 1) (kpl_len K T (pv 0))) (fun _ _ => rfl)) pe_int))))
pss_nil)
(pss_cons (ps_set (i := 3) sc__law_cell.nd rfl (Or.inl rfl) (pe_op op_mod (pe_op op_mul (pv 2) pe_int) pe_int))
(pss_one (ps_ret (pe_op op_mod (pe_op op_fdivA (pe_op op_mul (pv 3) (pe_op op_add (pe_op op_add (pv 3) (pe_op op_mul pe_int (pv 1))) pe_int)) pe_int) pe_int))))))), ?_⟩
    refine ⟨_, rfl, _, rfl, a, _, rfl, .inl hS, _, _, rfl, rfl, _, rfl, ?_⟩
    refine ite2 (fun h => ?_) (fun h => ?_)
    · have h' : k < ns.length := by have := of_decide_eq_true h; omega
      obtain ⟨z, hz⟩ := at_int ns hk0 h'
      exact ⟨_, rfl, _, rfl, a, _, _, _, rfl, rfl, hS, hz, q _⟩
    · refine ⟨_, rfl, _, _, rfl, rfl, .inl ⟨by omega, by omega⟩, ?_⟩
      refine ⟨_, rfl, a, _, rfl, .inl hS, _, _, rfl, rfl, _, rfl, ?_⟩
      have fin : ∀ sd : Int, (0 : Int) ≤ sd * 48271 % 65537 ∧ sd * 48271 % 65537 < 65537 := fun sd => ⟨Int.emod_nonneg _ (by decide), Int.emod_lt_of_pos _ (by decide)⟩
      refine ite2 (fun h => ?_) (fun h => ?_)
      · have h' : 0 < (ns.length : Int) := by have := of_decide_eq_true h; omega
        obtain ⟨z, hz⟩ := at_int ns (k := k % ((ns.map V.int).length : Int)) (Int.emod_nonneg _ (by omega)) (by have := Int.emod_lt_of_pos k (b := ((ns.map V.int).length : Int)) (by omega); omega)
        refine ⟨_, rfl, _, rfl, _, rfl, _, rfl, a, _, rfl, .inl hS, _, _, rfl, rfl, (by show (0 : Int) < _; omega), a, _, _, _, rfl, rfl, hS, hz, _, _, rfl, rfl, (by show (0 : Int) < 65537; decide), _, _, rfl, rfl, ?_⟩
        have f1 := fin (k * 7919 + z % 65537)
        refine ⟨_, rfl, _, _, rfl, rfl, .inr ⟨by decide, by decide⟩, _, _, rfl, rfl, (by show (0 : Int) < 65537; decide), ?_⟩
        exact ⟨_, rfl, _, rfl, _, rfl, _, _, rfl, rfl, .inl ⟨by decide, by decide⟩, _, _, rfl, rfl, _, _, rfl, rfl, _, _, rfl, rfl, .inl ⟨Int.lt_of_lt_of_le (by decide) f1.1, Int.lt_of_lt_of_le f1.2 (by decide)⟩, _, _, rfl, rfl, smallDiv (by decide) (by decide), _, _, rfl, rfl, (by show (0 : Int) < 65521; decide), q _⟩
      · have f1 := fin (k * 7919)
        refine ⟨_, rfl, _, _, rfl, rfl, .inr ⟨by decide, by decide⟩, _, _, rfl, rfl, (by show (0 : Int) < 65537; decide), ?_⟩
        exact ⟨_, rfl, _, rfl, _, rfl, _, _, rfl, rfl, .inl ⟨by decide, by decide⟩, _, _, rfl, rfl, _, _, rfl, rfl, _, _, rfl, rfl, .inl ⟨Int.lt_of_lt_of_le (by decide) f1.1, Int.lt_of_lt_of_le f1.2 (by decide)⟩, _, _, rfl, rfl, smallDiv (by decide) (by decide), _, _, rfl, rfl, (by show (0 : Int) < 65521; decide), q _⟩
theorem sc__law_bag : FnScope ["_law_script", "_law_at", "_law_cell_here"] ["_law_script", "_law_at"] (defScope s__law_bag) := ⟨rfl, rfl, rfl, by decide +kernel, rfl, by decide +kernel, by decide +kernel⟩
theorem ok_bag {f : Addr} {fd : FuncData} (F : Fun K "_law_bag" "_law_bag" s__law_bag f fd) (G_law_cell : FnB P w K mg base 1 "_law_cell" (spCell K)) : FnOk P w K mg base CX0 2 f fd ["_law_script", "_law_at"] (spBag K) := by
  refine F.ok sc__law_bag (fun vs H Q E h => ?_) (fun cdv A outer s H vs Q E hr h => ?_)
  · obtain ⟨a, ns, k, rfl, _⟩ := h
    rfl
  · obtain ⟨a, ns, k, rfl, hS, hl, hk0, hk1, q⟩ := h
    refine ⟨_, (pss_cons (ps_set (i := 2) sc__law_bag.nd rfl (Or.inl rfl) (pe_fn G_law_cell (hr.mono (by first | decide | exact Nat.le_refl _)) (pa_cons (pv 0) (pa_cons (pv 1) pa_nil))))
(pss_cons (ps_if (PW.pt (pw_or (pt_cmpR op_ge (pv 2) (pe_op op_pow pe_int pe_int) (nomark _)) (pw_or1 (pt_cmpR op_le (pv 2) (pe_un un_neg (pe_op op_pow pe_int pe_int)) (nomark _)))))
(pss_one (ps_ret (pe_lst (pa_cons (pv 2) (pa_cons pe_int pa_nil)))))
pss_nil)
(pss_one (ps_ret (pe_lst (pa_cons (pe_op op_mod (pv 2) pe_int) (pa_cons (pe_op op_add (pv 1) pe_int) pa_nil))))))), ?_⟩
    refine ⟨_, rfl, _, rfl, a, ns, k, rfl, hS, hl, hk0, by omega, fun r => ?_⟩
    refine ⟨_, rfl, _, _, rfl, rfl, ⟨by decide, by decide, by decide⟩, _, _, rfl, rfl, _, rfl, ?_⟩
    have f1 : (0 : Int) ≤ r % 2147483647 ∧ r % 2147483647 < 2147483647 := ⟨Int.emod_nonneg _ (by decide), Int.emod_lt_of_pos _ (by decide)⟩
    refine ite2 (fun h => ?_) (fun h => ?_)
    · refine iteT ?_
      exact ⟨_, rfl, by show 2 ≤ sizeLine; decide, fun p hp => q p r 0 hp (.inl rfl)⟩
    · refine ⟨_, rfl, _, _, rfl, rfl, ⟨by decide, by decide, by decide⟩, _, rfl, _, _, rfl, rfl, _, rfl, ?_⟩
      refine ite2 (fun h => ?_) (fun h => ?_)
      · exact ⟨_, rfl, by show 2 ≤ sizeLine; decide, fun p hp => q p r 0 hp (.inl rfl)⟩
      · exact ⟨_, rfl, _, _, rfl, rfl, (by show (0 : Int) < 2147483647; decide), _, rfl, _, _, rfl, rfl, by show 2 ≤ sizeLine; decide, fun p hp => q p _ _ hp (.inr ⟨f1.1, f1.2, by omega, by omega⟩)⟩
theorem sc__law_take : FnScope ["_law_bag_here", "_law_many", "_law_some"] ["_law_bag_here", "_law_many"] (defScope s__law_take) := ⟨rfl, rfl, rfl, by decide +kernel, rfl, by decide +kernel, by decide +kernel⟩
theorem ok_take {f : Addr} {fd : FuncData} (F : Fun K "_law_take" "_law_take" s__law_take f fd) : FnOk P w K mg base CX0 1 f fd ["_law_bag_here", "_law_many"] spTake := by
  refine F.ok sc__law_take (fun vs H Q E h => ?_) (fun cdv A outer s H vs Q E hr h => ?_)
  · obtain ⟨p, a, b, m, k, rfl, _⟩ := h
    rfl
  · obtain ⟨p, a, b, m, k, rfl, hp, hb, hk, hm, hm2, q⟩ := h
    refine ⟨_, (pss_cons (ps_if (pt_cmpR op_eq (pe_ix (kix_list K rfl) (pv 0) pe_int (fun _ _ => rfl)) pe_int (nomark _))
(pss_cons (ps_set (i := 2) sc__law_take.nd rfl (Or.inl rfl) (pe_op op_mod (pe_ix (kix_list K rfl) (pv 0) pe_int (fun _ _ => rfl)) (pv 1)))
(pss_cons (ps_asg (pe_op op_fdivA (pe_ix (kix_list K rfl) (pv 0) pe_int (fun _ _ => rfl)) (pv 1)) (pg_sub (pv 0) pe_int set_list))
(pss_one (ps_ret (pv 2)))))
pss_nil)
(pss_cons (ps_asg (pe_op op_mod (pe_op op_add (pe_op op_add (pe_op op_mul (pe_ix (kix_list K rfl) (pv 0) pe_int (fun _ _ => rfl)) pe_int) (pe_op op_mul (pe_op op_mul pe_int (pe_ix (kix_list K rfl) (pv 0) pe_int (fun _ _ => rfl))) (pe_ix (kix_list K rfl) (pv 0) pe_int (fun _ _ => rfl)))) pe_int) pe_int) (pg_sub (pv 0) pe_int set_list))
(pss_cons (ps_asg (pe_op op_add (pe_ix (kix_list K rfl) (pv 0) pe_int (fun _ _ => rfl)) pe_int) (pg_sub (pv 0) pe_int set_list))
(pss_one (ps_ret (pe_op op_mod (pe_op op_mod (pe_op op_mul (pe_ix (kix_list K rfl) (pv 0) pe_int (fun _ _ => rfl)) pe_int) pe_int) (pv 1))))))), ?_⟩
    have e0 : ∀ (a b : Int) (H' : Hp), H' p = some (.lst [.int a, .int b]) → SqL K H' p [.int a, .int b] := fun a b H' h => SqL.of h
    refine ⟨_, rfl, p, _, _, _, rfl, rfl, e0 a b H hp, rfl, rfl, _, rfl, ?_⟩
    refine ite2 (fun h => ?_) (fun h => ?_)
    · have hb0 : b = 0 := by simpa using h
      refine ⟨_, rfl, p, _, _, _, rfl, rfl, e0 a b H hp, rfl, _, rfl, _, _, rfl, rfl, hm, ?_⟩
      refine ⟨_, rfl, p, _, _, _, rfl, rfl, e0 a b H hp, rfl, _, rfl, _, _, rfl, rfl, ⟨by omega, hm2⟩, _, rfl, p, _, _, _, rfl, rfl, hp, rfl, ?_⟩
      refine ⟨_, rfl, ?_⟩
      exact q _ _ _ (Int.emod_nonneg _ (by omega)) (Int.emod_lt_of_pos _ hm) (.inl hb0)
    · have hb0 : b ≠ 0 := by simpa using h
      rcases hb with z | ⟨a0, a1, b0, b1⟩
      · exact absurd z hb0
      refine ⟨_, rfl, p, _, _, _, rfl, rfl, e0 a b H hp, rfl, _, _, rfl, rfl, .inl ⟨by omega, by omega⟩, _, rfl, p, _, _, _, rfl, rfl, e0 a b H hp, rfl, _, _, rfl, rfl, .inl ⟨by decide, by decide⟩, _, rfl, p, _, _, _, rfl, rfl, e0 a b H hp, rfl, _, _, rfl, rfl, .inr ⟨by omega, by omega⟩, _, _, rfl, rfl, _, _, rfl, rfl, _, _, rfl, rfl, (by show (0 : Int) < 2147483647; decide), _, rfl, p, _, _, _, rfl, rfl, hp, rfl, ?_⟩
      have a0' : 0 ≤ stepA a b := Int.emod_nonneg _ (by decide)
      have a1' : stepA a b < 2147483647 := Int.emod_lt_of_pos _ (by decide)
      refine ⟨_, rfl, p, _, _, _, rfl, rfl, e0 (stepA a b) b _ upd_same, rfl, _, _, rfl, rfl, _, rfl, p, [.int (stepA a b), .int b], _, _, rfl, rfl, upd_same, rfl, ?_⟩
      refine ⟨_, rfl, p, _, _, _, rfl, rfl, e0 (stepA a b) (b + 1) _ upd_same, rfl, _, _, rfl, rfl, .inl ⟨by omega, by omega⟩, _, _, rfl, rfl, (by show (0 : Int) < 2147483629; decide), _, rfl, _, _, rfl, rfl, hm, ?_⟩
      have e : upd (upd H p (.lst [.int (stepA a b), .int b])) p (.lst [.int (stepA a b), .int (b + 1)]) = upd H p (.lst [.int (stepA a b), .int (b + 1)]) := upd_upd
      have z := q (stepA a b * 69621 % 2147483629 % m) (stepA a b) (b + 1) (Int.emod_nonneg _ (by omega)) (Int.emod_lt_of_pos _ hm) (.inr ⟨a0', a1', by omega, by omega⟩)
      rw [← e] at z
      exact z
end

def spWhole (K : PySem.W.Frag) : Sp := fun vs H Q _ => ∃ (v : V) (t : Value) (b c : Bool), vs = [v] ∧ TyOf K H v t ∧ PySem.W.kitOne K t (.type "int") = some b ∧ PySem.W.kitOne K t (.type "bool") = some c ∧ Q (.bl (b && !c)) H
theorem BagOk.mono {a b : Int} {j k : Nat} (h : BagOk a b j) (hk : j ≤ k) : BagOk a b k := by
  rcases h with h | ⟨h1, h2, h3, h4⟩
  · exact .inl h
  · exact .inr ⟨h1, h2, h3, by omega⟩
section
variable {P : Program} {w : World} {K : PySem.W.Frag} {mg : Str → Option Value} {base : Heap}
theorem sc__law_whole : FnScope ["_law_found"] ["_law_found"] (defScope s__law_whole) := ⟨rfl, rfl, rfl, by decide +kernel, rfl, by decide +kernel, by decide +kernel⟩
theorem ok_whole {f : Addr} {fd : FuncData} (F : Fun K "_law_whole" "_law_whole" s__law_whole f fd) (T : Blt mg) : FnOk P w K mg base CX0 1 f fd ["_law_found"] (spWhole K) := by
  refine F.ok sc__law_whole (fun vs H Q E h => ?_) (fun cdv A outer s H vs Q E hr h => ?_)
  · obtain ⟨v, t, b, c, rfl, _⟩ := h
    rfl
  · obtain ⟨v, t, b, c, rfl, ty, h1, h2, q⟩ := h
    refine ⟨_, (pss_one (ps_ret (pe_and (kpl_is K T (pv 0) T.int boot_int') (pe_one (pe_not (kpl_is K T (pv 0) T.bool boot_bool')))))), ?_⟩
    refine ⟨_, rfl, t, b, ty, h1, _, rfl, ?_⟩
    cases b with
    | false => exact iteF q
    | true => exact iteT ⟨_, rfl, t, c, ty, h2, _, rfl, q⟩
end

theorem sqvT {K : PySem.W.Frag} {H : Hp} {a : Addr} {xs : List V} (h : SqT K H a xs) : SqV true K H a xs := h
theorem sqvL {K : PySem.W.Frag} {H : Hp} {a : Addr} {xs : List V} (h : SqL K H a xs) : SqV false K H a xs := h
def v2 (f : Int → Int → V) : V → V → V := fun x y => match x, y with
  | .int i, .int j => f i j
  | _, _ => .non
def v1 (f : Int → V) : V → V := fun x => match x with
  | .int i => f i
  | _ => .non
theorem map_v1 (f : Int → V) (ns : List Int) : (ns.map V.int).map (v1 f) = ns.map f := by
  rw [List.map_map]; rfl
theorem ints_at {ns : List Int} {i : Nat} {x : V} (h : (ns.map V.int)[i]? = some x) : ∃ z, ns[i]? = some z ∧ x = .int z := by
  rw [List.getElem?_map] at h
  cases e : ns[i]? with
  | none => rw [e] at h; cases h
  | some z => rw [e] at h; exact ⟨z, rfl, (Option.some.inj h).symm⟩

/-! great numbers, lowest terms, primes, as the law draws them -/
theorem ten10 : ((10 : Int) ^ (10 : Int).toNat) = 10000000000 := by decide +kernel
def spGreat : Sp := fun vs H Q _ => ∃ (p : Addr) (a b : Int) (k : Nat), vs = [.ref p] ∧ H p = some (.lst [.int a, .int b]) ∧ BagOk a b k ∧ k ≤ 900000 ∧
  ∀ (r a' b' : Int), 0 ≤ r → r < 1000000000000000000000000000000 → BagOk a' b' (k + 3) → Q (.int r) (upd H p (.lst [.int a', .int b']))
def spSigned : Sp := fun vs H Q _ => ∃ (p : Addr) (a b : Int) (k : Nat), vs = [.ref p] ∧ H p = some (.lst [.int a, .int b]) ∧ BagOk a b k ∧ k ≤ 800000 ∧
  ∀ (r a' b' : Int), -1000000000000000000000000000000 < r → r < 1000000000000000000000000000000 → BagOk a' b' (k + 4) → Q (.int r) (upd H p (.lst [.int a', .int b']))
section
variable {P : Program} {w : World} {K : PySem.W.Frag} {mg : Str → Option Value} {base : Heap}
theorem sc__law_great : FnScope ["_law_bag_here", "_law_high"] ["_law_bag_here"] (defScope s__law_great) := ⟨rfl, rfl, rfl, by decide +kernel, rfl, by decide +kernel, by decide +kernel⟩
theorem ok_great {f : Addr} {fd : FuncData} (F : Fun K "_law_great" "_law_great" s__law_great f fd) (G_law_take : FnB P w K mg base 1 "_law_take" spTake) : FnOk P w K mg base CX0 2 f fd ["_law_bag_here"] spGreat := by
  refine F.ok sc__law_great (fun vs H Q E h => ?_) (fun cdv A outer s H vs Q E hr h => ?_)
  · obtain ⟨p, a, b, k, rfl, _⟩ := h
    rfl
  · obtain ⟨p, a, b, k, rfl, hp, hb, hk, q⟩ := h
    refine ⟨_, (pss_cons (ps_set (i := 1) sc__law_great.nd rfl (Or.inl rfl) (pe_op op_add (pe_op op_mul (pe_fn G_law_take (hr.mono (by first | decide | exact Nat.le_refl _)) (pa_cons (pv 0) (pa_cons (pe_op op_pow pe_int pe_int) pa_nil))) (pe_op op_pow pe_int pe_int)) (pe_fn G_law_take (hr.mono (by first | decide | exact Nat.le_refl _)) (pa_cons (pv 0) (pa_cons (pe_op op_pow pe_int pe_int) pa_nil)))))
(pss_one (ps_ret (pe_op op_add (pe_op op_mul (pv 1) (pe_op op_pow pe_int pe_int)) (pe_fn G_law_take (hr.mono (by first | decide | exact Nat.le_refl _)) (pa_cons (pv 0) (pa_cons (pe_op op_pow pe_int pe_int) pa_nil))))))), ?_⟩
    refine ⟨_, rfl, _, _, rfl, rfl, ⟨by decide, by decide, by decide⟩, p, a, b, _, k, rfl, hp, hb, by omega, by rw [ten10]; decide, by rw [ten10]; exact smallAbs (by decide) (by decide), fun r1 a1 b1 r10 r11 hb1 => ?_⟩
    rw [ten10] at r11
    refine ⟨_, _, rfl, rfl, ⟨by decide, by decide, by decide⟩, _, _, rfl, rfl, .inl ⟨by omega, by omega⟩, ?_⟩
    refine ⟨_, rfl, _, _, rfl, rfl, ⟨by decide, by decide, by decide⟩, p, a1, b1, _, k + 1, rfl, upd_same, hb1, by omega, by rw [ten10]; decide, by rw [ten10]; exact smallAbs (by decide) (by decide), fun r2 a2 b2 r20 r21 hb2 => ?_⟩
    rw [ten10] at r21
    refine ⟨_, _, rfl, rfl, ?_⟩
    refine ⟨_, rfl, _, _, rfl, rfl, ⟨by decide, by decide, by decide⟩, _, _, rfl, rfl, .inr (by rw [ten10]; exact ⟨by decide, by decide⟩), ?_⟩
    refine ⟨_, rfl, _, _, rfl, rfl, ⟨by decide, by decide, by decide⟩, p, a2, b2, _, k + 2, rfl, upd_same, hb2, by omega, by rw [ten10]; decide, by rw [ten10]; exact smallAbs (by decide) (by decide), fun r3 a3 b3 r30 r31 hb3 => ?_⟩
    rw [ten10] at r31
    refine ⟨_, _, rfl, rfl, ?_⟩
    rw [upd_upd, upd_upd, ten10]
    exact q _ a3 b3 (by omega) (by omega) hb3
theorem sc__law_signed : FnScope ["_law_bag_here"] ["_law_bag_here"] (defScope s__law_signed) := ⟨rfl, rfl, rfl, by decide +kernel, rfl, by decide +kernel, by decide +kernel⟩
theorem ok_signed {f : Addr} {fd : FuncData} (F : Fun K "_law_signed" "_law_signed" s__law_signed f fd) (G_law_take : FnB P w K mg base 1 "_law_take" spTake) (G_law_great : FnB P w K mg base 2 "_law_great" spGreat) : FnOk P w K mg base CX0 3 f fd ["_law_bag_here"] spSigned := by
  refine F.ok sc__law_signed (fun vs H Q E h => ?_) (fun cdv A outer s H vs Q E hr h => ?_)
  · obtain ⟨p, a, b, k, rfl, _⟩ := h
    rfl
  · obtain ⟨p, a, b, k, rfl, hp, hb, hk, q⟩ := h
    refine ⟨_, (pss_one (ps_ret (pe_op op_mul (pe_op op_sub (pe_op op_mul pe_int (pe_fn G_law_take (hr.mono (by first | decide | exact Nat.le_refl _)) (pa_cons (pv 0) (pa_cons pe_int pa_nil)))) pe_int) (pe_fn G_law_great (hr.mono (by first | decide | exact Nat.le_refl _)) (pa_cons (pv 0) pa_nil))))), ?_⟩
    refine ⟨_, rfl, p, a, b, 2, k, rfl, hp, hb, by omega, by decide, smallAbs (by decide) (by decide), fun r1 a1 b1 r10 r11 hb1 => ?_⟩
    refine ⟨_, _, rfl, rfl, .inl ⟨by decide, by decide⟩, _, _, rfl, rfl, ?_⟩
    refine ⟨_, rfl, p, a1, b1, k + 1, rfl, upd_same, hb1, by omega, fun r2 a2 b2 r20 r21 hb2 => ?_⟩
    refine ⟨_, _, rfl, rfl, .inl ⟨by omega, by omega⟩, ?_⟩
    rw [upd_upd]
    have h01 : r1 = 0 ∨ r1 = 1 := by omega
    refine q _ a2 b2 ?_ ?_ hb2
    · rcases h01 with z | z <;> rw [z] <;> omega
    · rcases h01 with z | z <;> rw [z] <;> omega
end

/-! lowest terms, as the law finds them -/
def spLow : Sp := fun vs H Q _ => ∃ (a b : Int), vs = [.int a, .int b] ∧ b ≠ 0 ∧ b.natAbs < 2 ^ 4000 ∧ ∀ t, H t = none → Q (.ref t) (upd H t (.tup [.int (nrm a b).1, .int (nrm a b).2]))
section
variable {P : Program} {w : World} {K : PySem.W.Frag} {mg : Str → Option Value} {base : Heap}
theorem sc__law_low : FnScope ["_law_top", "_law_bottom", "_law_one", "_law_other"] ["_law_top", "_law_bottom"] (defScope s__law_low) := ⟨rfl, rfl, rfl, by decide +kernel, rfl, by decide +kernel, by decide +kernel⟩
theorem ok_low {f : Addr} {fd : FuncData} (F : Fun K "_law_low" "_law_low" s__law_low f fd) (T : Blt mg) : FnOk P w K mg base CX0 1 f fd ["_law_top", "_law_bottom"] spLow := by
  refine F.ok sc__law_low (fun vs H Q E h => ?_) (fun cdv A outer s H vs Q E hr h => ?_)
  · obtain ⟨a, b, rfl, _⟩ := h
    rfl
  · obtain ⟨a, b, rfl, hb, hbs, q⟩ := h
    refine ⟨_, (pss_cons (ps_set (i := 2) sc__law_low.nd rfl (Or.inl rfl) (pl_abs T (pv 0)))
(pss_cons (ps_set (i := 3) sc__law_low.nd rfl (Or.inl rfl) (pl_abs T (pv 1)))
(pss_cons (ps_while PassesOwn.never (pt_cmpR op_gt (pv 3) pe_int (nomark _))
(pss_one (ps_par (i := 2) (j := 3) rfl sc__law_low.nd rfl rfl (by decide) rfl rfl (pa_cons (pv 3) (pa_cons (pe_op op_mod (pv 2) (pv 3)) pa_nil)) rfl)))
(pss_cons (ps_if (pt_cmpR op_lt (pv 1) pe_int (nomark _))
(pss_one (ps_set (i := 2) sc__law_low.nd rfl (Or.inl rfl) (pe_op op_sub pe_int (pv 2))))
pss_nil)
(pss_one (ps_ret (pe_tup (pa_cons (pe_op op_fdivA (pv 0) (pv 2)) (pa_cons (pe_op op_fdivA (pv 1) (pv 2)) pa_nil))))))))), ?_⟩
    refine ⟨_, rfl, _, rfl, _, rfl, _, rfl, ?_⟩
    refine while_by (fun σ H' => ∃ x y : Nat, σ = [some (.int a), some (.int b), some (.int x), some (.int y)] ∧ H' = H ∧ Nat.gcd x y = Int.gcd a b) (fun σ _ => match σ with | [_, _, _, some (.int y)] => y.toNat | _ => 0) ⟨a.natAbs, b.natAbs, ?_, rfl, rfl⟩ ?_ ?_
    · have e1 : (if a < 0 then -a else a) = (a.natAbs : Int) := by split <;> omega
      have e2 : (if b < 0 then -b else b) = (b.natAbs : Int) := by split <;> omega
      rw [e1, e2]
      rfl
    · rintro σ H2 ⟨x, y, rfl, rfl, hg⟩
      refine ⟨_, rfl, _, _, rfl, rfl, _, rfl, ite2 (fun h => ?_) (fun h => ?_)⟩
      · have hy : 0 < y := by have := of_decide_eq_true h; omega
        refine ⟨_, rfl, _, rfl, _, rfl, _, _, rfl, rfl, (by show (0 : Int) < (y : Int); omega), _, _, rfl, ⟨y, x % y, ?_, rfl, ?_⟩, ?_⟩
        · rfl
        · rw [← hg, Nat.gcd_comm x y, Nat.gcd_rec y x, Nat.gcd_comm]
        · show ((x : Int) % (y : Int)).toNat < (y : Int).toNat
          have h1 := Int.emod_lt_of_pos (x : Int) (show (0 : Int) < y by omega)
          have h2 := Int.emod_nonneg (x : Int) (show (y : Int) ≠ 0 by omega)
          omega
      · have hy : y = 0 := by
          have h1 : ¬ (0 : Int) < (y : Int) := fun z => h (decide_eq_true z)
          omega
        subst hy
        rw [Nat.gcd_zero_right] at hg
        subst hg
        have hgp : 0 < Int.gcd a b := Int.gcd_pos_of_ne_zero_right a hb
        have hgl : Int.gcd a b ≤ b.natAbs := Nat.le_of_dvd (by omega) (Nat.gcd_dvd_right a.natAbs b.natAbs)
        have sm : (Int.gcd a b) < 2 ^ 4000 := Nat.lt_of_le_of_lt hgl hbs
        refine ⟨_, rfl, _, _, rfl, rfl, _, rfl, ite2 (fun h => ?_) (fun h => ?_)⟩
        · have hb0 : b < 0 := of_decide_eq_true h
          refine ⟨_, rfl, _, _, rfl, rfl, ?_⟩
          have sm2 : CDivA a (0 - (Int.gcd a b : Int)) := ⟨by omega, by rw [show (0 - (Int.gcd a b : Int)).natAbs = Int.gcd a b by omega]; exact sm⟩
          refine ⟨_, rfl, _, rfl, _, _, rfl, rfl, sm2, _, rfl, _, rfl, _, _, rfl, rfl, sm2, (by show 2 ≤ sizeLine; decide), fun t ht => ?_⟩
          have z := q t ht
          unfold nrm at z
          rw [if_pos hb0] at z
          rw [show 0 - (Int.gcd a b : Int) = -(Int.gcd a b : Int) by omega]
          exact z
        · have hb0 : ¬ b < 0 := fun z => h (decide_eq_true z)
          have sm2 : CDivA a (Int.gcd a b : Int) := ⟨by omega, by rw [Int.natAbs_natCast]; exact sm⟩
          refine ⟨_, rfl, _, rfl, _, _, rfl, rfl, sm2, _, rfl, _, rfl, _, _, rfl, rfl, sm2, (by show 2 ≤ sizeLine; decide), fun t ht => ?_⟩
          have z := q t ht
          unfold nrm at z
          rw [if_neg hb0] at z
          exact z
    · rintro σ H Q Q' hq ⟨x, hx, i, j, e1, e2, b, hb, h⟩
      exact ⟨x, hx, i, j, e1, e2, b, hb, hq _ _ h⟩
end


/-! primes, as the law finds them -/
def partsTo (n : Int) (i : Nat) : List Int := ((List.range i).map fun j : Nat => (2 : Int) + (j : Int)).filter fun d => decide (d * d ≤ n)
def isPb (n : Int) : Bool := decide (1 < n) && (partsTo n 98).all fun d => decide (0 < n % d)
def PrimeOk (p : Int) : Prop := p = 0 ∨ (2 ≤ p ∧ p ≤ 9973 ∧ isPb p = true)
theorem partsTo_succ (n : Int) (i : Nat) : partsTo n (i + 1) = if (2 + (i : Int)) * (2 + (i : Int)) ≤ n then partsTo n i ++ [2 + (i : Int)] else partsTo n i := by
  unfold partsTo
  rw [List.range_succ, List.map_append, List.filter_append]
  by_cases h : (2 + (i : Int)) * (2 + (i : Int)) ≤ n
  · rw [if_pos h]
    simp [h]
  · rw [if_neg h]
    simp [h]
theorem mem_parts {n d : Int} {i : Nat} : d ∈ partsTo n i ↔ 2 ≤ d ∧ d < 2 + (i : Int) ∧ d * d ≤ n := by
  unfold partsTo
  rw [List.mem_filter, List.mem_map]
  constructor
  · rintro ⟨⟨j, hj, rfl⟩, h⟩
    have := List.mem_range.mp hj
    exact ⟨by omega, by omega, of_decide_eq_true h⟩
  · rintro ⟨h1, h2, h3⟩
    exact ⟨⟨(d - 2).toNat, List.mem_range.mpr (by omega), by omega⟩, decide_eq_true h3⟩
theorem isPb_iff {n : Int} : isPb n = true ↔ 1 < n ∧ ∀ d, 2 ≤ d → d < 100 → d * d ≤ n → 0 < n % d := by
  unfold isPb
  rw [Bool.and_eq_true, List.all_eq_true]
  constructor
  · rintro ⟨h1, h2⟩
    exact ⟨of_decide_eq_true h1, fun d a b c => of_decide_eq_true (h2 d (mem_parts.mpr ⟨a, by omega, c⟩))⟩
  · rintro ⟨h1, h2⟩
    refine ⟨decide_eq_true h1, fun d hd => ?_⟩
    obtain ⟨a, b, c⟩ := mem_parts.mp hd
    exact decide_eq_true (h2 d a (by omega) c)
theorem isPb_2 : isPb 2 = true := by decide +kernel
def spLawPrime : Sp := fun vs H Q _ => ∃ n : Int, vs = [.int n] ∧ ∀ H', Same H H' → Q (.bl (isPb n)) H'
section
variable {P : Program} {w : World} {K : PySem.W.Frag} {mg : Str → Option Value} {base : Heap}
theorem sc__law_is_prime : FnScope ["_law_number_here", "_law_parts_here"] ["_law_number_here"] (defScope s__law_is_prime) := ⟨rfl, rfl, rfl, by decide +kernel, rfl, by decide +kernel, by decide +kernel⟩
theorem ok_lawprime {f : Addr} {fd : FuncData} (F : Fun K "_law_is_prime" "_law_is_prime" s__law_is_prime f fd) (T : Blt mg) : FnOk P w K mg base CX0 1 f fd ["_law_number_here"] spLawPrime := by
  refine F.ok sc__law_is_prime (fun vs H Q E h => ?_) (fun cdv A outer s H vs Q E hr h => ?_)
  · obtain ⟨n, rfl, _⟩ := h
    rfl
  · obtain ⟨n, rfl, q⟩ := h
    refine ⟨_, (pss_cons (ps_setc (i := 1) sc__law_is_prime.nd rfl (Or.inl rfl) (N := ["_law_part", "_law_number_here"]) (src := [none, some 0]) rfl rfl rfl (by exact (pi_range2 rfl T.range (pa_cons pe_int (pa_cons pe_int pa_nil)))) (fun _ _ _ => by exact ⟨by exact (pg_nm (i := 0) nd_0 rfl rfl), (pif_one (pt_cmpR op_le (pe_op op_mul (pv 0) (pv 0)) (pv 1) (nomark _))), by exact (pv 0)⟩))
(pss_one (ps_ret (pe_and (pe_cmpR op_gt (pv 0) pe_int (nomark _)) (pe_one (kpl_all K T (by exact pe_comp (N := ["_law_part", "_law_number_here"]) (src := [none, some 0]) rfl rfl rfl (by exact (kpi_list K rfl (pv 1))) (fun _ _ _ => by exact ⟨by exact (pg_nm (i := 0) nd_0 rfl rfl), pif_nil, by exact (pe_cmpR op_gt (pe_op op_mod (pv 1) (pv 0)) pe_int (nomark _))⟩)) false)))))), ?_⟩
    refine ⟨_, _, rfl, ⟨by decide, by decide, by decide, by decide⟩, comp_by (n := 98) (σ0 := [none, some (.int n)]) rfl (fun acc i zs σ H' => ∃ u : Option V, σ = [u, some (.int n)] ∧ zs = (partsTo n i).map V.int ∧ Same H H') (by decide) (fun acc hacc => ⟨none, rfl, rfl, Same.new hacc⟩) ?_ ?_ ?_ ?_⟩
    · rintro acc i zs σ H' hacc hi hz _
      exact hi
    · rintro acc zs σ H' hacc hz _
      exact Nat.le_refl 98
    · rintro acc i zs σ H' x H'' hacc hi hz hzl ⟨u, rfl, rfl, sm⟩ ⟨rfl, rfl⟩
      refine ⟨_, rfl, _, rfl, _, _, rfl, rfl, .inl ⟨by omega, by omega⟩, _, rfl, _, _, rfl, rfl, _, rfl, ite2 (fun h => ?_) (fun h => ?_)⟩
      · have h' : (2 + (i : Int)) * (2 + (i : Int)) ≤ n := of_decide_eq_true h
        refine ⟨_, rfl, _, hz, small1000 (by omega), _, upd_same, by rw [List.length_append, List.length_singleton]; omega, _, rfl, ?_, sm.put hacc⟩
        rw [partsTo_succ, if_pos h', List.map_append]
        rfl
      · have h' : ¬ (2 + (i : Int)) * (2 + (i : Int)) ≤ n := fun z => h (decide_eq_true z)
        refine ⟨_, hz, by omega, _, rfl, ?_, sm⟩
        rw [partsTo_succ, if_neg h']
    · rintro acc zs σ H' hacc hz hzl ⟨u, rfl, rfl, sm⟩
      refine ⟨_, rfl, _, _, rfl, rfl, _, rfl, ite2 (fun h => ?_) (fun h => ?_)⟩
      · have h1 : (1 : Int) < n := of_decide_eq_true h
        refine ⟨_, rfl, acc, rfl, ⟨_, SqL.of hz⟩, comp_lst (v1 fun d => .bl (decide (0 < n % d))) rfl (SqL.of hz) (Nat.le_of_lt (small1000 (by omega))) (fun i x H1 R hx sm1 hR => ?_) (fun acc2 H1 hacc2 sm1 hl1 => ?_)⟩
        · obtain ⟨z, hz', rfl⟩ := ints_at hx
          obtain ⟨z2, _, _⟩ := mem_parts.mp (List.mem_of_getElem? hz')
          exact ⟨_, rfl, _, rfl, _, _, rfl, rfl, (by show (0 : Int) < z; omega), _, _, rfl, rfl, hR⟩
        · rw [map_v1] at hl1
          have e1 : (partsTo n 98).map (fun d => V.bl (decide (0 < n % d))) = ((partsTo n 98).map fun d => decide (0 < n % d)).map V.bl := by rw [List.map_map]; rfl
          rw [e1] at hl1
          refine ⟨acc2, _, rfl, sqvL (SqL.of hl1), ?_⟩
          have z := q H1 (sm.trans sm1)
          unfold isPb at z
          rw [decide_eq_true h1, Bool.true_and] at z
          rw [List.all_map]
          exact z
      · have h1 : ¬ (1 : Int) < n := fun z => h (decide_eq_true z)
        have z := q H' sm
        unfold isPb at z
        rw [decide_eq_false h1, Bool.false_and] at z
        exact z
end

def spPrime : Sp := fun vs H Q _ => ∃ (p : Addr) (a b : Int) (k : Nat), vs = [.ref p] ∧ H p = some (.lst [.int a, .int b]) ∧ BagOk a b k ∧ k ≤ 900000 ∧
  ∀ (r a' b' : Int) (H' : Hp), PrimeOk r → H' p = some (.lst [.int a', .int b']) → BagOk a' b' (k + 2) → (∀ c o, H c = some o → c ≠ p → H' c = some o) → Q (.int r) H'
section
variable {P : Program} {w : World} {K : PySem.W.Frag} {mg : Str → Option Value} {base : Heap}
theorem sc__law_prime : FnScope ["_law_bag_here", "_law_way", "_law_number_here"] ["_law_bag_here"] (defScope s__law_prime) := ⟨rfl, rfl, rfl, by decide +kernel, rfl, by decide +kernel, by decide +kernel⟩
theorem ok_prime {f : Addr} {fd : FuncData} (F : Fun K "_law_prime" "_law_prime" s__law_prime f fd) (G_law_take : FnB P w K mg base 1 "_law_take" spTake) (G_law_is_prime : FnB P w K mg base 1 "_law_is_prime" spLawPrime) : FnOk P w K mg base CX0 2 f fd ["_law_bag_here"] spPrime := by
  refine F.ok sc__law_prime (fun vs H Q E h => ?_) (fun cdv A outer s H vs Q E hr h => ?_)
  · obtain ⟨p, a, b, k, rfl, _⟩ := h
    rfl
  · obtain ⟨p, a, b, k, rfl, hp, hb, hk, q⟩ := h
    refine ⟨_, (pss_cons (ps_set (i := 1) sc__law_prime.nd rfl (Or.inl rfl) (pe_fn G_law_take (hr.mono (by first | decide | exact Nat.le_refl _)) (pa_cons (pv 0) (pa_cons pe_int pa_nil))))
(pss_cons (ps_if (pt_cmpR op_lt (pv 1) pe_int (nomark _))
(pss_one (ps_ret pe_int))
pss_nil)
(pss_cons (ps_if (pt_cmpR op_lt (pv 1) pe_int (nomark _))
(pss_one (ps_ret (pe_ix (kix_list K rfl) (pe_lst (pa_cons pe_int (pa_cons pe_int (pa_cons pe_int pa_nil)))) (pe_op op_sub (pv 1) pe_int) (fun _ _ => rfl))))
pss_nil)
(pss_cons (ps_set (i := 2) sc__law_prime.nd rfl (Or.inl rfl) (pe_op op_add pe_int (pe_fn G_law_take (hr.mono (by first | decide | exact Nat.le_refl _)) (pa_cons (pv 0) (pa_cons pe_int pa_nil)))))
(pss_cons (ps_while PassesOwn.never (pt_not (pt_val (pe_fn G_law_is_prime (hr.mono (by first | decide | exact Nat.le_refl _)) (pa_cons (pv 2) pa_nil))))
(pss_one (ps_set (i := 2) sc__law_prime.nd rfl (Or.inl rfl) (pe_op op_sub (pv 2) pe_int))))
(pss_one (ps_ret (pv 2)))))))), ?_⟩
    refine ⟨_, rfl, p, a, b, 8, k, rfl, hp, hb, by omega, by decide, smallAbs (by decide) (by decide), fun r1 a1 b1 r10 r11 hb1 => ?_⟩
    have k1 : ∀ o c o', H c = some o' → c ≠ p → (upd H p o) c = some o' := fun o c o' e hc => by rw [upd_ne hc]; exact e
    refine ⟨_, rfl, _, _, rfl, rfl, _, rfl, ite2 (fun h => ?_) (fun h => ?_)⟩
    · exact q 0 a1 b1 _ (.inl rfl) upd_same (hb1.mono (by omega)) (k1 _)
    have h4 : ¬ r1 < 4 := fun z => h (decide_eq_true z)
    refine ⟨_, rfl, _, _, rfl, rfl, _, rfl, ite2 (fun h => ?_) (fun h => ?_)⟩
    · have h7 : r1 < 7 := of_decide_eq_true h
      refine ⟨(by show 3 ≤ sizeLine; decide), fun q1 n1 => ?_⟩
      have pq : p ≠ q1 := ne_of_none (o := .lst [.int a1, .int b1]) upd_same n1
      obtain ⟨v, hat, hv⟩ : ∃ v : Int, atI [V.int 2, V.int 3, V.int 7] (r1 - 4) = some (.int v) ∧ PrimeOk v := by
        have h : r1 = 4 ∨ r1 = 5 ∨ r1 = 6 := by omega
        rcases h with rfl | rfl | rfl
        · exact ⟨2, rfl, .inr ⟨by decide, by decide, by decide +kernel⟩⟩
        · exact ⟨3, rfl, .inr ⟨by decide, by decide, by decide +kernel⟩⟩
        · exact ⟨7, rfl, .inr ⟨by decide, by decide, by decide +kernel⟩⟩
      refine ⟨_, rfl, _, _, rfl, rfl, q1, _, _, _, rfl, rfl, SqL.of upd_same, hat, ?_⟩
      exact q v a1 b1 _ hv (by rw [upd_ne pq, upd_same]) (hb1.mono (by omega)) fun c o e hc => by rw [upd_ne (ne_of_none (k1 _ c o e hc) n1)]; exact k1 _ c o e hc
    · refine ⟨_, rfl, p, a1, b1, 9972, k + 1, rfl, upd_same, hb1, by omega, by decide, smallAbs (by decide) (by decide), fun r2 a2 b2 r20 r21 hb2 => ?_⟩
      refine ⟨_, _, rfl, rfl, ?_⟩
      rw [upd_upd]
      refine while_by (fun σ H' => ∃ n : Int, σ = [some (.ref p), some (.int r1), some (.int n)] ∧ 2 ≤ n ∧ n ≤ 9973 ∧ Same (upd H p (.lst [.int a2, .int b2])) H') (fun σ _ => match σ with | [_, _, some (.int n)] => n.toNat | _ => 0) ⟨_, rfl, by omega, by omega, Same.refl _⟩ ?_ ?_
      · rintro σ H2 ⟨n, rfl, n2, n9, sm⟩
        refine ⟨_, rfl, n, rfl, fun H3 sm3 => ⟨_, rfl, ?_⟩⟩
        cases hn : isPb n with
        | false =>
          refine iteT ⟨_, rfl, _, _, rfl, rfl, ⟨_, rfl, ?_, by omega, sm.trans sm3⟩, ?_⟩
          · have : n ≠ 2 := fun z => by rw [z, isPb_2] at hn; cases hn
            omega
          · show (n - 1).toNat < n.toNat
            omega
        | true =>
          refine iteF ⟨_, rfl, ?_⟩
          have s := sm.trans sm3
          exact q n a2 b2 H3 (.inr ⟨n2, n9, hn⟩) (s _ _ upd_same) hb2 fun c o e hc => s _ _ (k1 _ c o e hc)
      · rintro σ H Q Q' hq ⟨x, hx, n, e, h⟩
        refine ⟨x, hx, n, e, fun H' s => ?_⟩
        obtain ⟨b, hb, z⟩ := h H' s
        exact ⟨b, hb, hq _ _ z⟩
end


/-! the program's numbers: prime, greatest divisor, the two classes made -/
def spIsPrime : Sp := fun vs H Q _ => ∃ n : Int, vs = [.int n] ∧ Q (.bl (decide (2 ≤ n ∧ n ≤ 9973) && isPb n)) H
section
variable {P : Program} {w : World} {K : PySem.W.Frag} {mg : Str → Option Value} {base : Heap}
theorem sc_is_prime : FnScope ["whole", "divisor"] ["whole"] (defScope s_is_prime) := ⟨rfl, rfl, rfl, by decide +kernel, rfl, by decide +kernel, by decide +kernel⟩
theorem ok_isprime {f : Addr} {fd : FuncData} {tk tk2 : Tok} (F : Fun K "is_prime" "is_prime" s_is_prime f fd) (cLeast : mg "LEAST_PRIME" = some (.int 2 tk)) (cGreatest : mg "GREATEST_PRIME" = some (.int 9973 tk2)) : FnOk P w K mg base CX0 1 f fd ["whole"] spIsPrime := by
  refine F.ok sc_is_prime (fun vs H Q E h => ?_) (fun cdv A outer s H vs Q E hr h => ?_)
  · obtain ⟨n, rfl, _⟩ := h
    rfl
  · obtain ⟨n, rfl, q⟩ := h
    refine ⟨_, (pss_cons (ps_if (PW.pt (pw_or (pt_cmpR op_lt (pv 0) (pe_glob (v := .int 2) rfl cLeast ⟨_, rfl⟩) (nomark _)) (pw_or1 (pt_cmpR op_gt (pv 0) (pe_glob (v := .int 9973) rfl cGreatest ⟨_, rfl⟩) (nomark _)))))
(pss_one (ps_ret pe_bl))
pss_nil)
(pss_cons (ps_set (i := 1) sc_is_prime.nd rfl (Or.inl rfl) pe_int)
(pss_cons (ps_while PassesOwn.never (pt_cmpR op_le (pe_op op_mul (pv 1) (pv 1)) (pv 0) (nomark _))
(pss_cons (ps_if (pt_cmpR op_eq (pe_op op_mod (pv 0) (pv 1)) pe_int (nomark _))
(pss_one (ps_ret pe_bl))
pss_nil)
(pss_one (ps_set (i := 1) sc_is_prime.nd rfl (Or.inl rfl) (pe_op op_add (pv 1) pe_int)))))
(pss_one (ps_ret pe_bl))))), ?_⟩
    have no : ¬ (2 ≤ n ∧ n ≤ 9973) → Q (.bl false) H := fun h => by
      rw [decide_eq_false h, Bool.false_and] at q
      exact q
    refine ⟨_, rfl, _, _, rfl, rfl, _, rfl, ite2 (fun h => ?_) (fun h => ?_)⟩
    · have h1 : n < 2 := of_decide_eq_true h
      exact iteT (no (by omega))
    have h1 : ¬ n < 2 := fun z => h (decide_eq_true z)
    refine ⟨_, rfl, _, _, rfl, rfl, _, rfl, ite2 (fun h => ?_) (fun h => ?_)⟩
    · have h2 : 9973 < n := of_decide_eq_true h
      exact no (by omega)
    have h2 : ¬ 9973 < n := fun z => h (decide_eq_true z)
    rw [decide_eq_true (show 2 ≤ n ∧ n ≤ 9973 by omega), Bool.true_and] at q
    refine while_by (fun σ H' => ∃ d : Int, σ = [some (.int n), some (.int d)] ∧ H' = H ∧ 2 ≤ d ∧ d ≤ 101 ∧ ∀ e, 2 ≤ e → e < d → 0 < n % e) (fun σ _ => match σ with | [_, some (.int d)] => (200 - d).toNat | _ => 0) ⟨2, rfl, rfl, by omega, by omega, fun e h1 h2 => by omega⟩ ?_ ?_
    · rintro σ H2 ⟨d, rfl, rfl, hd2, hd1, hall⟩
      refine ⟨_, rfl, _, rfl, _, _, rfl, rfl, .inl ⟨by omega, by omega⟩, _, rfl, _, _, rfl, rfl, _, rfl, ite2 (fun h => ?_) (fun h => ?_)⟩
      · have hdd : d * d ≤ n := of_decide_eq_true h
        have hd100 : d < 100 := Int.not_le.mp fun z => by
          have := Int.mul_le_mul z z (by omega) (by omega)
          omega
        refine ⟨_, rfl, _, rfl, _, _, rfl, rfl, (by show (0 : Int) < d; omega), rfl, _, rfl, ite2 (fun h => ?_) (fun h => ?_)⟩
        · have h0 : n % d = 0 := by
            have := of_decide_eq_true h
            injection this
          have e : isPb n = false := by
            cases hp : isPb n with
            | false => rfl
            | true =>
              have := (isPb_iff.mp hp).2 d hd2 hd100 hdd
              omega
          rw [e] at q
          exact q
        · have h0 : n % d ≠ 0 := fun z => h (decide_eq_true (congrArg V.int z))
          have h00 := Int.emod_nonneg n (show d ≠ 0 by omega)
          refine ⟨_, rfl, _, _, rfl, rfl, ⟨d + 1, rfl, rfl, by omega, by omega, fun e e1 e2 => ?_⟩, ?_⟩
          · by_cases ee : e = d
            · rw [ee]; omega
            · exact hall e e1 (by omega)
          · show (200 - (d + 1)).toNat < (200 - d).toNat
            omega
      · have hdd : ¬ d * d ≤ n := fun z => h (decide_eq_true z)
        have e : isPb n = true := isPb_iff.mpr ⟨by omega, fun e e1 e2 e3 => hall e e1 (Int.not_le.mp fun z => by
          have := Int.mul_le_mul z z (by omega) (by omega)
          omega)⟩
        rw [e] at q
        exact q
    · rintro σ H Q Q' hq ⟨x, hx, x2, hx2, i, j, e1, e2, c, y, hy, i2, j2, e3, e4, b, hb, h⟩
      exact ⟨x, hx, x2, hx2, i, j, e1, e2, c, y, hy, i2, j2, e3, e4, b, hb, hq _ _ h⟩
end

/-! the program's greatest divisor -/
def spGcd : Sp := fun vs H Q _ => ∃ a b : Int, vs = [.int a, .int b] ∧ Q (.int (Int.gcd a b)) H
section
variable {P : Program} {w : World} {K : PySem.W.Frag} {mg : Str → Option Value} {base : Heap}
theorem sc_greatest_divisor : FnScope ["one", "other", "first", "second", "rest"] ["one", "other"] (defScope s_greatest_divisor) := ⟨rfl, rfl, rfl, by decide +kernel, rfl, by decide +kernel, by decide +kernel⟩
theorem ok_gcd {f : Addr} {fd : FuncData} (F : Fun K "greatest_divisor" "greatest_divisor" s_greatest_divisor f fd) (T : Blt mg) : FnOk P w K mg base CX0 1 f fd ["one", "other"] spGcd := by
  refine F.ok sc_greatest_divisor (fun vs H Q E h => ?_) (fun cdv A outer s H vs Q E hr h => ?_)
  · obtain ⟨a, b, rfl, _⟩ := h
    rfl
  · obtain ⟨a, b, rfl, q⟩ := h
    refine ⟨_, (pss_cons (ps_set (i := 2) sc_greatest_divisor.nd rfl (Or.inl rfl) (pl_abs T (pv 0)))
(pss_cons (ps_set (i := 3) sc_greatest_divisor.nd rfl (Or.inl rfl) (pl_abs T (pv 1)))
(pss_cons (ps_while PassesOwn.never (pt_cmpR op_ne (pv 3) pe_int (nomark _))
(pss_cons (ps_set (i := 4) sc_greatest_divisor.nd rfl (Or.inl rfl) (pe_op op_mod (pv 2) (pv 3)))
(pss_cons (ps_set (i := 2) sc_greatest_divisor.nd rfl (Or.inl rfl) (pv 3))
(pss_one (ps_set (i := 3) sc_greatest_divisor.nd rfl (Or.inl rfl) (pv 4))))))
(pss_one (ps_ret (pv 2)))))), ?_⟩
    refine ⟨_, rfl, _, rfl, _, rfl, _, rfl, ?_⟩
    refine while_by (fun σ H' => ∃ (x y : Nat) (u : Option V), σ = [some (.int a), some (.int b), some (.int x), some (.int y), u] ∧ H' = H ∧ Nat.gcd x y = Int.gcd a b) (fun σ _ => match σ with | [_, _, _, some (.int y), _] => y.toNat | _ => 0) ⟨a.natAbs, b.natAbs, none, ?_, rfl, rfl⟩ ?_ ?_
    · have e1 : (if a < 0 then -a else a) = (a.natAbs : Int) := by split <;> omega
      have e2 : (if b < 0 then -b else b) = (b.natAbs : Int) := by split <;> omega
      rw [e1, e2]
      rfl
    · rintro σ H2 ⟨x, y, u, rfl, rfl, hg⟩
      refine ⟨_, rfl, rfl, _, rfl, ?_⟩
      by_cases hy : y = 0
      · subst hy
        refine iteNS rfl ?_
        rw [Nat.gcd_zero_right] at hg
        subst hg
        exact ⟨_, rfl, q⟩
      · rw [decide_eq_false (show ¬ V.int (y : Int) = V.int 0 from fun z => by injection z; omega)]
        refine iteT ⟨_, rfl, _, rfl, _, _, rfl, rfl, (by show (0 : Int) < (y : Int); omega), _, rfl, _, rfl, ⟨y, x % y, some (.int ((x : Int) % (y : Int))), ?_, rfl, ?_⟩, ?_⟩
        · rfl
        · rw [← hg, Nat.gcd_comm x y, Nat.gcd_rec y x, Nat.gcd_comm]
        · show ((x : Int) % (y : Int)).toNat < (y : Int).toNat
          have h1 := Int.emod_lt_of_pos (x : Int) (show (0 : Int) < y by omega)
          have h2 := Int.emod_nonneg (x : Int) (show (y : Int) ≠ 0 by omega)
          omega
    · rintro σ H Q Q' hq ⟨x, hx, e1, b, hb, h⟩
      exact ⟨x, hx, e1, b, hb, hq _ _ h⟩
end

/-! the two classes -/
def NumsAt (CF CR : Addr) (H : Hp) (x : Addr) (p : Int) : Prop := (p = 0 ∧ ∃ dx, H x = some (.ins CF dx [])) ∨ (p ≠ 0 ∧ ∃ dx, H x = some (.ins CR dx [("modulus", .int p)]))
def spRInit (CR : Addr) : Sp := fun vs H Q _ => ∃ (x dx : Addr) (p : Int), vs = [.ref x, .int p] ∧ H x = some (.ins CR dx []) ∧ PrimeOk p ∧ p ≠ 0 ∧ Q .non (upd H x (.ins CR dx [("modulus", .int p)]))
def spNums (CF CR : Addr) : Sp := fun vs H Q _ => ∃ p : Int, vs = [.int p] ∧ PrimeOk p ∧ ∀ (x : Addr) (H' : Hp), Same H H' → NumsAt CF CR H' x p → Q (.ref x) H'
section
variable {P : Program} {w : World} {K : PySem.W.Frag} {mg : Str → Option Value} {base : Heap}
theorem sc_Rests___init__ : FnScope ["self", "prime"] ["self", "prime"] (defScope s_Rests___init__) := ⟨rfl, rfl, rfl, by decide +kernel, rfl, by decide +kernel, by decide +kernel⟩
theorem ok_rinit {f CR : Addr} {fd : FuncData} (F : Fun K "__init__" "Rests.__init__" s_Rests___init__ f fd) (cl : Cls K CR) (nM : NoAttr K CR "modulus") (Gis_prime : FnB P w K mg base 1 "is_prime" spIsPrime) : FnOk P w K mg base CX0 2 f fd ["self", "prime"] (spRInit CR) := by
  refine F.ok sc_Rests___init__ (fun vs H Q E h => ?_) (fun cdv A outer s H vs Q E hr h => ?_)
  · obtain ⟨x, dx, p, rfl, _⟩ := h
    rfl
  · obtain ⟨x, dx, p, rfl, hx, hp, p0, q⟩ := h
    refine ⟨_, (pss_cons (ps_if (pt_not (pt_val (pe_fn Gis_prime (hr.mono (by first | decide | exact Nat.le_refl _)) (pa_cons (pv 1) pa_nil))))
(pss_one ps_never)
pss_nil)
(pss_one (ps_fld (pv 0) (pv 1) rfl))), ?_⟩
    rcases hp with z | ⟨h1, h2, h3⟩
    · exact absurd z p0
    refine ⟨_, rfl, p, rfl, _, rfl, ?_⟩
    rw [decide_eq_true ⟨h1, h2⟩, h3]
    refine iteF ⟨_, rfl, _, rfl, x, CR, dx, [], rfl, hx, cl, nM, (by show 0 < 1000; decide), ?_⟩
    exact q
theorem sc__law_numbers : FnScope ["_law_prime_here"] ["_law_prime_here"] (defScope s__law_numbers) := ⟨rfl, rfl, rfl, by decide +kernel, rfl, by decide +kernel, by decide +kernel⟩
theorem ok_nums {f CF CR : Addr} {fd : FuncData} (F : Fun K "_law_numbers" "_law_numbers" s__law_numbers f fd) (MFractions : Mk0 K CF) (AFractions : mg "Fractions" = some (.ref CF)) (MRests : MkB P w K mg base 2 CR "Rests" (spRInit CR)) : FnOk P w K mg base CX0 4 f fd ["_law_prime_here"] (spNums CF CR) := by
  refine F.ok sc__law_numbers (fun vs H Q E h => ?_) (fun cdv A outer s H vs Q E hr h => ?_)
  · obtain ⟨p, rfl, _⟩ := h
    rfl
  · obtain ⟨p, rfl, hp, q⟩ := h
    refine ⟨_, (pss_cons (ps_if (pt_cmpR op_eq (pv 0) pe_int (nomark _))
(pss_one (ps_ret (pe_mk0 MFractions AFractions)))
pss_nil)
(pss_one (ps_ret (pe_mkB MRests (hr.mono (by first | decide | exact Nat.le_refl _)) (pa_cons (pv 0) pa_nil))))), ?_⟩
    refine ⟨_, rfl, rfl, _, rfl, ite2 (fun h => ?_) (fun h => ?_)⟩
    · have h0 : p = 0 := by
        have := of_decide_eq_true h
        injection this
      intro x dx nx ndx ne
      exact q x _ ((Same.new ndx).put nx) (.inl ⟨h0, dx, upd_same⟩)
    · have h0 : p ≠ 0 := fun z => h (decide_eq_true (congrArg V.int z))
      refine ⟨_, rfl, fun x dx nx ndx ne => ?_⟩
      refine ⟨x, dx, p, rfl, upd_same, hp, h0, rfl, ?_⟩
      exact q x _ (((Same.new ndx).put nx).put nx) (.inr ⟨h0, dx, upd_same⟩)
end

def isI : V → Bool
  | .int _ => true
  | _ => false
def nnI : V → Bool
  | .int i => decide (0 ≤ i)
  | _ => false
def Typed (K : PySem.W.Frag) (H : Hp) (x : V) : Prop := ∃ (t : Value) (b c : Bool), TyOf K H x t ∧ PySem.W.kitOne K t (.type "int") = some b ∧ PySem.W.kitOne K t (.type "bool") = some c ∧ (b && !c) = isI x
theorem Typed.same {K : PySem.W.Frag} {H H' : Hp} {x : V} (s : Same H H') (h : Typed K H x) : Typed K H' x := by
  obtain ⟨t, b, c, ty, h1, h2, e⟩ := h
  exact ⟨t, b, c, ty.same s, h1, h2, e⟩
theorem Typed.int {K : PySem.W.Frag} {H : Hp} (i : Int) : Typed K H (.int i) := ⟨_, true, false, .int i, rfl, rfl, rfl⟩
theorem Typed.bl {K : PySem.W.Frag} {H : Hp} (i : Bool) : Typed K H (.bl i) := ⟨_, true, true, .bl i, rfl, rfl, rfl⟩
theorem Typed.non {K : PySem.W.Frag} {H : Hp} : Typed K H .non := ⟨_, false, false, .non, rfl, rfl, rfl⟩
theorem Typed.str {K : PySem.W.Frag} {H : Hp} (x : Str) : Typed K H (.str x) := ⟨_, false, false, .str x, rfl, rfl, rfl⟩
theorem Typed.tup {K : PySem.W.Frag} {H : Hp} {a : Addr} {xs : List V} (h : H a = some (.tup xs)) : Typed K H (.ref a) := ⟨_, false, false, .tup h, rfl, rfl, rfl⟩
theorem Typed.lst {K : PySem.W.Frag} {H : Hp} {a : Addr} {xs : List V} (h : H a = some (.lst xs)) : Typed K H (.ref a) := ⟨_, false, false, .lst h, rfl, rfl, rfl⟩
theorem typed_ints {K : PySem.W.Frag} {H : Hp} (ns : List Int) : ∀ x ∈ ns.map V.int, Typed K H x := fun x hx => by
  obtain ⟨z, _, rfl⟩ := List.mem_map.mp hx
  exact .int z

/-! numbers: drawn ones, things that are numbers -/
def NumIs (P : Int) (H : Hp) (v : V) : Prop := (P ≠ 0 ∧ ∃ r, v = .int r ∧ 0 ≤ r ∧ r < P) ∨ (P = 0 ∧ ∃ (t : Addr) (n d : Int), v = .ref t ∧ H t = some (.tup [.int n, .int d]) ∧ 0 < d ∧ Int.gcd n d = 1 ∧ n.natAbs < 10 ^ 31 ∧ d.natAbs < 10 ^ 31)
theorem pow31 : (10 : Nat) ^ 31 < 2 ^ 2000 := by decide +kernel
theorem pow2000 : (2 : Nat) ^ 2000 < 2 ^ 4000 := Nat.pow_lt_pow_right (by decide) (by decide)
def Thing (K : PySem.W.Frag) (H : Hp) (v : V) : Prop := Typed K H v ∧ ((∃ t, TyOf K H v t ∧ PySem.W.kitOne K t (.type "tuple") = some false ∧ ∀ a, v = .ref a → ∃ xs, H a = some (.lst xs)) ∨
  ∃ a xs, v = .ref a ∧ H a = some (.tup xs) ∧ xs.length ≤ 1000 ∧ (∀ x ∈ xs, Typed K H x) ∧ ∀ i, V.int i ∈ xs → i.natAbs < 2 ^ 2000)
def pairV : List V → Bool
  | [.int n, .int d] => decide (1 ≤ d) && decide (Int.gcd n d = 1)
  | _ => false
def fracV (H : Hp) : V → Bool
  | .ref a => match H a with
    | some (.tup xs) => pairV xs
    | _ => false
  | _ => false
def restV (P : Int) : V → Bool
  | .int i => decide (0 ≤ i) && decide (i < P)
  | _ => false
def numV (P : Int) (H : Hp) (v : V) : Bool := if P = 0 then fracV H v else restV P v
theorem fracV_tup {H : Hp} {a : Addr} {xs : List V} (h : H a = some (.tup xs)) : fracV H (.ref a) = pairV xs := by
  show (match H a with | some (.tup xs) => pairV xs | _ => false) = _
  rw [h]
theorem fracV_not {H : Hp} {v : V} (h : ∀ a, v = .ref a → ∃ xs, H a = some (.lst xs)) : fracV H v = false := by
  cases v with
  | ref a =>
    obtain ⟨xs, e⟩ := h a rfl
    show (match H a with | some (.tup xs) => pairV xs | _ => false) = _
    rw [e]
  | _ => rfl
/-- the heap but for what lists hold -/
def Soft (H H' : Hp) : Prop := ∀ c o, H c = some o → H' c = some o ∨ ∃ xs ys, o = .lst xs ∧ H' c = some (.lst ys)
theorem Soft.of {H H' : Hp} (s : Same H H') : Soft H H' := fun c o e => .inl (s c o e)
theorem Soft.but {H H' : Hp} {p : Addr} {xs ys : List V} (hp : H p = some (.lst xs)) (hp' : H' p = some (.lst ys)) (k : ∀ c o, H c = some o → c ≠ p → H' c = some o) : Soft H H' := fun c o e => by
  by_cases hc : c = p
  · subst hc
    rw [hp] at e
    exact .inr ⟨xs, ys, (Option.some.inj e).symm, hp'⟩
  · exact .inl (k c o e hc)
theorem TyOf.soft {K : PySem.W.Frag} {H H' : Hp} {x : V} {t : Value} (s : Soft H H') (h : TyOf K H x t) : TyOf K H' x t := by
  cases h with
  | non => exact .non
  | bl b => exact .bl b
  | int i => exact .int i
  | str x => exact .str x
  | flt x => exact .flt x
  | lst e =>
    rcases s _ _ e with z | ⟨xs, ys, _, z⟩
    · exact .lst z
    · exact .lst z
  | frz e =>
    rcases s _ _ e with z | ⟨xs, ys, z, _⟩
    · exact .frz z
    · cases z
  | tup e =>
    rcases s _ _ e with z | ⟨xs, ys, z, _⟩
    · exact .tup z
    · cases z
  | dK e =>
    rcases s _ _ e with z | ⟨xs, ys, z, _⟩
    · exact .dK z
    · cases z
  | dT e =>
    rcases s _ _ e with z | ⟨xs, ys, z, _⟩
    · exact .dT z
    · cases z
  | ins e cl ha hn htk hm =>
    rcases s _ _ e with z | ⟨xs, ys, z, _⟩
    · exact .ins z cl ha hn htk hm
    · cases z
theorem Typed.soft {K : PySem.W.Frag} {H H' : Hp} {x : V} (s : Soft H H') (h : Typed K H x) : Typed K H' x := by
  obtain ⟨t, b, c, ty, h1, h2, e⟩ := h
  exact ⟨t, b, c, TyOf.soft s ty, h1, h2, e⟩
theorem Thing.soft {K : PySem.W.Frag} {H H' : Hp} {v : V} (s : Soft H H') (h : Thing K H v) : Thing K H' v := by
  obtain ⟨ty, ⟨t, ty2, e, hn⟩ | ⟨a, xs, rfl, ha, hl, hty, hb⟩⟩ := h
  · refine ⟨ty.soft s, .inl ⟨t, TyOf.soft s ty2, e, fun a ea => ?_⟩⟩
    obtain ⟨xs, hx⟩ := hn a ea
    rcases s _ _ hx with z | ⟨_, ys, _, z⟩
    · exact ⟨_, z⟩
    · exact ⟨_, z⟩
  · rcases s _ _ ha with z | ⟨_, _, z, _⟩
    · exact ⟨.tup z, .inr ⟨a, xs, rfl, z, hl, fun x hx => (hty x hx).soft s, hb⟩⟩
    · cases z
theorem numV_soft {K : PySem.W.Frag} {P : Int} {H H' : Hp} {v : V} (s : Soft H H') (h : Thing K H v) : numV P H' v = numV P H v := by
  unfold numV
  by_cases h0 : P = 0
  · rw [if_pos h0, if_pos h0]
    obtain ⟨_, ⟨t, ty2, e, hn⟩ | ⟨a, xs, rfl, ha, hl, hty, hb⟩⟩ := h
    · rw [fracV_not hn, fracV_not]
      intro a ea
      obtain ⟨xs, hx⟩ := hn a ea
      rcases s _ _ hx with z | ⟨_, ys, _, z⟩
      · exact ⟨_, z⟩
      · exact ⟨_, z⟩
    · rcases s _ _ ha with z | ⟨_, _, z, _⟩
      · rw [fracV_tup ha, fracV_tup z]
      · cases z
  · rw [if_neg h0, if_neg h0]
def spNumber : Sp := fun vs H Q _ => ∃ (p : Addr) (P a b : Int) (g : Bool) (k : Nat), vs = [.int P, .ref p, .bl g] ∧ PrimeOk P ∧ H p = some (.lst [.int a, .int b]) ∧ BagOk a b k ∧ k ≤ 700000 ∧
  ∀ (v : V) (a' b' : Int) (H' : Hp), NumIs P H' v → H' p = some (.lst [.int a', .int b']) → BagOk a' b' (k + 8) → (∀ c o, H c = some o → c ≠ p → H' c = some o) → Q v H'
def spLike (K : PySem.W.Frag) : Sp := fun vs H Q _ => ∃ (P : Int) (v : V), vs = [.int P, v] ∧ PrimeOk P ∧ Thing K H v ∧ ∀ H', Same H H' → Q (.bl (numV P H v)) H'
section
variable {P : Program} {w : World} {K : PySem.W.Frag} {mg : Str → Option Value} {base : Heap}
theorem sc__law_number : FnScope ["_law_prime_here", "_law_bag_here", "_law_great_here"] ["_law_prime_here", "_law_bag_here", "_law_great_here"] (defScope s__law_number) := ⟨rfl, rfl, rfl, by decide +kernel, rfl, by decide +kernel, by decide +kernel⟩
theorem ok_number {f : Addr} {fd : FuncData} (F : Fun K "_law_number" "_law_number" s__law_number f fd) (T : Blt mg) (G_law_take : FnB P w K mg base 1 "_law_take" spTake) (G_law_great : FnB P w K mg base 2 "_law_great" spGreat) (G_law_signed : FnB P w K mg base 3 "_law_signed" spSigned) (G_law_low : FnB P w K mg base 1 "_law_low" spLow) :
    FnOk P w K mg base CX0 4 f fd ["_law_prime_here", "_law_bag_here", "_law_great_here"] spNumber := by
  refine F.ok sc__law_number (fun vs H Q E h => ?_) (fun cdv A outer s H vs Q E hr h => ?_)
  · obtain ⟨p, P, a, b, g, k, rfl, _⟩ := h
    rfl
  · obtain ⟨p, P, a, b, g, k, rfl, hP, hp, hb, hk, q⟩ := h
    refine ⟨_, (pss_cons (ps_if (pt_cmpR op_gt (pv 0) pe_int (nomark _))
(pss_one (ps_ret (pe_fn G_law_take (hr.mono (by first | decide | exact Nat.le_refl _)) (pa_cons (pv 1) (pa_cons (pv 0) pa_nil)))))
pss_nil)
(pss_cons (ps_if (pt_val (pv 2))
(pss_one (ps_ret (pe_fn G_law_low (hr.mono (by first | decide | exact Nat.le_refl _)) (pa_cons (pe_fn G_law_signed (hr.mono (by first | decide | exact Nat.le_refl _)) (pa_cons (pv 1) pa_nil)) (pa_cons (pl_max T (pa_cons pe_int (pa_cons (pe_fn G_law_great (hr.mono (by first | decide | exact Nat.le_refl _)) (pa_cons (pv 1) pa_nil)) pa_nil))) pa_nil)))))
pss_nil)
(pss_one (ps_ret (pe_fn G_law_low (hr.mono (by first | decide | exact Nat.le_refl _)) (pa_cons (pe_op op_sub (pe_fn G_law_take (hr.mono (by first | decide | exact Nat.le_refl _)) (pa_cons (pv 1) (pa_cons pe_int pa_nil))) pe_int) (pa_cons (pe_op op_add pe_int (pe_op op_fdivA (pe_fn G_law_take (hr.mono (by first | decide | exact Nat.le_refl _)) (pa_cons (pv 1) (pa_cons pe_int pa_nil))) pe_int)) pa_nil))))))), ?_⟩
    have k1 : ∀ o c o', H c = some o' → c ≠ p → (upd H p o) c = some o' := fun o c o' e hc => by rw [upd_ne hc]; exact e
    refine ⟨_, rfl, _, _, rfl, rfl, _, rfl, ite2 (fun h => ?_) (fun h => ?_)⟩
    · have h0 : 0 < P := of_decide_eq_true h
      have h9 : P ≤ 9973 := by rcases hP with z | ⟨_, z, _⟩ <;> omega
      refine ⟨_, rfl, _, rfl, p, a, b, P, k, rfl, hp, hb, by omega, h0, smallAbs (by omega) (by omega), fun r a1 b1 r0 r1 hb1 => ?_⟩
      exact q _ a1 b1 _ (.inl ⟨by omega, r, rfl, r0, r1⟩) upd_same (hb1.mono (by omega)) (k1 _)
    have h0 : P = 0 := by
      have h1 : ¬ 0 < P := fun z => h (decide_eq_true z)
      rcases hP with z | ⟨z, _⟩ <;> omega
    have low : ∀ (n d a' b' : Int) (t : Addr), 0 < d → n.natAbs < 10 ^ 31 → d.natAbs < 10 ^ 31 → BagOk a' b' (k + 8) → (upd H p (.lst [.int a', .int b'])) t = none →
        Q (.ref t) (upd (upd H p (.lst [.int a', .int b'])) t (.tup [.int (nrm n d).1, .int (nrm n d).2])) := fun n d a' b' t hd hn hd2 hb' ht => by
      have pt : p ≠ t := ne_of_none (o := .lst [.int a', .int b']) upd_same ht
      have hl := nrm_le n d (by omega)
      refine q _ a' b' _ (.inr ⟨h0, t, _, _, rfl, upd_same, nrm_pos n d (by omega), nrm_cop n d (by omega), Nat.lt_of_le_of_lt hl.1 hn, Nat.lt_of_le_of_lt hl.2 hd2⟩) (by rw [upd_ne pt, upd_same]) hb' fun c o e hc => ?_
      rw [upd_ne (ne_of_none (k1 _ c o e hc) ht)]
      exact k1 _ c o e hc
    have big : ∀ d : Int, d.natAbs < 10 ^ 31 → d.natAbs < 2 ^ 4000 := fun d h => Nat.lt_trans h (Nat.lt_trans pow31 pow2000)
    refine ⟨_, rfl, _, rfl, ?_⟩
    cases g with
    | true =>
      refine iteT ⟨_, rfl, p, a, b, k, rfl, hp, hb, by omega, fun r1 a1 b1 r10 r11 hb1 => ?_⟩
      refine ⟨_, rfl, p, a1, b1, k + 4, rfl, upd_same, hb1, by omega, fun r2 a2 b2 r20 r21 hb2 => ?_⟩
      refine ⟨_, _, rfl, ?_⟩
      rw [upd_upd]
      have hm : (1 : Int) ≤ (if r2 > 1 then r2 else 1) ∧ (if r2 > 1 then r2 else 1) < 1000000000000000000000000000000 := by split <;> omega
      generalize (if r2 > 1 then r2 else 1) = m at hm
      refine ⟨r1, m, rfl, by omega, big _ (by omega), fun t ht => ?_⟩
      exact low r1 m a2 b2 t (by omega) (by omega) (by omega) (hb2.mono (by omega)) ht
    | false =>
      refine iteF ⟨_, rfl, p, a, b, 7, k, rfl, hp, hb, by omega, by decide, smallAbs (by decide) (by decide), fun r1 a1 b1 r10 r11 hb1 => ?_⟩
      refine ⟨_, _, rfl, rfl, ?_⟩
      refine ⟨_, rfl, p, a1, b1, 8, k + 1, rfl, upd_same, hb1, by omega, by decide, smallAbs (by decide) (by decide), fun r2 a2 b2 r20 r21 hb2 => ?_⟩
      refine ⟨_, _, rfl, rfl, smallDiv (by decide) (by decide), _, _, rfl, rfl, ?_⟩
      rw [upd_upd]
      have hm : (1 : Int) ≤ 1 + r2.fdiv 7 ∧ 1 + r2.fdiv 7 < 100 := by
        rw [Int.fdiv_eq_ediv_of_nonneg _ (by decide)]
        omega
      refine ⟨r1 - 3, 1 + r2.fdiv 7, rfl, by omega, big _ (by omega), fun t ht => ?_⟩
      exact low (r1 - 3) (1 + r2.fdiv 7) a2 b2 t (by omega) (by omega) (by omega) (hb2.mono (by omega)) ht
theorem sc__law_number_like : FnScope ["_law_prime_here", "_law_found"] ["_law_prime_here", "_law_found"] (defScope s__law_number_like) := ⟨rfl, rfl, rfl, by decide +kernel, rfl, by decide +kernel, by decide +kernel⟩
theorem ok_like {f : Addr} {fd : FuncData} (F : Fun K "_law_number_like" "_law_number_like" s__law_number_like f fd) (T : Blt mg) (G_law_whole : FnB P w K mg base 1 "_law_whole" (spWhole K)) (G_law_low : FnB P w K mg base 1 "_law_low" spLow) :
    FnOk P w K mg base CX0 2 f fd ["_law_prime_here", "_law_found"] (spLike K) := by
  refine F.ok sc__law_number_like (fun vs H Q E h => ?_) (fun cdv A outer s H vs Q E hr h => ?_)
  · obtain ⟨P, v, rfl, _⟩ := h
    rfl
  · obtain ⟨P, v, rfl, hP, ⟨ty, hv⟩, q⟩ := h
    refine ⟨_, (pss_cons (ps_if (pt_cmpR op_gt (pv 0) pe_int (nomark _))
(pss_one (ps_ret (pe_and (pe_fn G_law_whole (hr.mono (by first | decide | exact Nat.le_refl _)) (pa_cons (pv 1) pa_nil)) (pe_one (pe_chain op_le op_lt pe_int (pv 1) (pv 0))))))
pss_nil)
(pss_cons (ps_if (PW.pt (pw_or (pt_not (pt_val (kpl_is K T (pv 1) T.tuple boot_tuple'))) (pw_or (pt_cmpR op_ne (kpl_len K T (pv 1)) pe_int (nomark _)) (pw_or (pt_not (pt_val (pe_fn G_law_whole (hr.mono (by first | decide | exact Nat.le_refl _)) (pa_cons (pe_ix (kix_tup K rfl) (pv 1) pe_int (fun _ _ => rfl)) pa_nil)))) (pw_or1 (pt_not (pt_val (pe_fn G_law_whole (hr.mono (by first | decide | exact Nat.le_refl _)) (pa_cons (pe_ix (kix_tup K rfl) (pv 1) pe_int (fun _ _ => rfl)) pa_nil)))))))))
(pss_one (ps_ret pe_bl))
pss_nil)
(pss_one (ps_ret (pe_and (pe_cmpR op_gt (pe_ix (kix_tup K rfl) (pv 1) pe_int (fun _ _ => rfl)) pe_int (nomark _)) (pe_one (pe_cmpR (keqD K rfl hr.units) (pe_fn G_law_low (hr.mono (by first | decide | exact Nat.le_refl _)) (pa_cons (pe_ix (kix_tup K rfl) (pv 1) pe_int (fun _ _ => rfl)) (pa_cons (pe_ix (kix_tup K rfl) (pv 1) pe_int (fun _ _ => rfl)) pa_nil))) (pv 1) (nomark _)))))))), ?_⟩
    refine ⟨_, rfl, _, _, rfl, rfl, _, rfl, ite2 (fun h => ?_) (fun h => ?_)⟩
    · have h0 : 0 < P := of_decide_eq_true h
      have z := q H (Same.refl H)
      unfold numV at z
      rw [if_neg (by omega)] at z
      obtain ⟨t, b, c, ty, h1, h2, e⟩ := ty
      refine ⟨_, rfl, v, t, b, c, rfl, ty, h1, h2, _, rfl, ?_⟩
      rw [e]
      cases v with
      | int i =>
        refine iteT ⟨_, rfl, _, _, rfl, rfl, _, rfl, ?_⟩
        by_cases hi : 0 ≤ i
        · rw [decide_eq_true hi]
          refine iteT ⟨_, rfl, _, _, rfl, rfl, ?_⟩
          have z' : Q (.bl (decide (0 ≤ i) && decide (i < P))) H := z
          rw [decide_eq_true hi, Bool.true_and] at z'
          exact z'
        · rw [decide_eq_false hi]
          have z' : Q (.bl (decide (0 ≤ i) && decide (i < P))) H := z
          rw [decide_eq_false hi, Bool.false_and] at z'
          exact iteF z'
      | _ => exact iteF z
    · have h0 : P = 0 := by
        have h1 : ¬ 0 < P := fun z => h (decide_eq_true z)
        rcases hP with z | ⟨z, _⟩ <;> omega
      unfold numV at q
      rw [if_pos h0] at q
      rcases hv with ⟨t, ty, e, hn⟩ | ⟨a, xs, rfl, ha, hl, hty, hbd⟩
      · rw [fracV_not hn] at q
        exact ⟨_, rfl, t, false, ty, e, _, rfl, iteT (iteT (q H (Same.refl H)))⟩
      · rw [fracV_tup ha] at q
        refine ⟨_, rfl, _, true, .tup ha, rfl, _, rfl, iteF ?_⟩
        refine ⟨_, rfl, a, xs, rfl, .inr (SqT.of ha), rfl, _, rfl, ?_⟩
        by_cases hL : (xs.length : Int) = 2
        · refine iteNS (congrArg V.int hL) ?_
          match xs, hL with
          | [x, y], _ =>
          obtain ⟨t1, b1, c1, ty1, h11, h12, e1⟩ := hty x (by simp)
          obtain ⟨t2, b2, c2, ty2, h21, h22, e2⟩ := hty y (by simp)
          refine ⟨_, rfl, a, _, _, _, rfl, rfl, SqT.of ha, rfl, x, t1, b1, c1, rfl, ty1, h11, h12, _, rfl, ?_⟩
          rw [e1]
          cases x with
          | int n =>
            refine iteF ?_
            refine ⟨_, rfl, a, _, _, _, rfl, rfl, SqT.of ha, rfl, y, t2, b2, c2, rfl, ty2, h21, h22, _, rfl, ?_⟩
            rw [e2]
            cases y with
            | int d =>
              refine iteF ?_
              refine ⟨_, rfl, a, _, _, _, rfl, rfl, SqT.of ha, rfl, _, _, rfl, rfl, _, rfl, ?_⟩
              have q' : ∀ H', Same H H' → Q (.bl (decide (1 ≤ d) && decide (Int.gcd n d = 1))) H' := q
              by_cases hd : 0 < d
              · rw [decide_eq_true (show 1 ≤ d by omega), Bool.true_and] at q'
                rw [decide_eq_true hd]
                refine iteT ⟨_, rfl, a, _, _, _, rfl, rfl, SqT.of ha, rfl, _, rfl, a, _, _, _, rfl, rfl, SqT.of ha, rfl, n, d, rfl, by omega, Nat.lt_trans (hbd d (by simp)) pow2000, fun t nt => ?_⟩
                have st := Same.new (o := .tup [.int (nrm n d).1, .int (nrm n d).2]) nt
                refine ⟨_, rfl, dInts [(nrm n d).1, (nrm n d).2], dInts [n, d], dr_ints (SqT.of upd_same), dr_ints (SqT.of (st _ _ ha)), shaped_ints _, shaped_ints _, ?_⟩
                rw [eqv_ints]
                have ed : decide ([(nrm n d).1, (nrm n d).2] = [n, d]) = decide (Int.gcd n d = 1) := by
                  apply decide_eq_decide.mpr
                  rw [← nrm_self n d hd]
                  constructor
                  · intro z
                    injection z with z1 z2
                    injection z2 with z2
                    exact Prod.ext z1 z2
                  · intro z
                    rw [z]
                rw [ed]
                exact q' _ st
              · rw [decide_eq_false (show ¬ 1 ≤ d by omega), Bool.false_and] at q'
                rw [decide_eq_false hd]
                exact iteF (q' H (Same.refl H))
            | _ => exact iteT (q H (Same.refl H))
          | _ => exact iteT (iteT (by cases y <;> exact q H (Same.refl H)))
        · have e0 : (!decide (V.int (xs.length : Int) = V.int 2)) = true := by
            rw [decide_eq_false (fun z => hL (by injection z))]; rfl
          rw [e0]
          have z := q H (Same.refl H)
          have ep : pairV xs = false := by
            unfold pairV
            split
            · exact absurd rfl hL
            · rfl
          rw [ep] at z
          exact iteT (iteT z)
end

/-! a number as it lies in the heap -/
def At (P : Int) (H : Hp) (v : V) (x : Int × Int) : Prop := (P = 0 ∧ ∃ t, v = .ref t ∧ H t = some (.tup [.int x.1, .int x.2])) ∨ (P ≠ 0 ∧ v = .int x.1 ∧ x.2 = 1)
theorem At.mono {P : Int} {H H' : Hp} {v : V} {x : Int × Int} (h : At P H v x) (k : ∀ t xs, H t = some (.tup xs) → H' t = some (.tup xs)) : At P H' v x := by
  rcases h with ⟨h0, t, rfl, e⟩ | h
  · exact .inl ⟨h0, t, rfl, k _ _ e⟩
  · exact .inr h
theorem At.same {P : Int} {H H' : Hp} {v : V} {x : Int × Int} (h : At P H v x) (s : Same H H') : At P H' v x := h.mono fun t xs e => s _ _ e

/-! the program's fractions made, a bottom of nought refused -/
theorem pow_1000 : (2 : Nat) ^ 1900 < 2 ^ 4000 := Nat.pow_lt_pow_right (by decide) (by decide)
theorem mulSz {a b : Int} (h1 : a.natAbs < 2 ^ 1900) (h2 : b.natAbs < 2 ^ 1900) : IntMulOk a b := mulOk (Nat.lt_trans h1 pow_1000) (Nat.lt_trans h2 pow_1000)
theorem mulSz2 {a b : Int} (h1 : a.natAbs < 2 ^ 1900) (h2 : b.natAbs < 2 ^ 1900) : (a * b).natAbs < 2 ^ 4000 := Nat.lt_of_lt_of_le (sz_mul h1 h2) (pow_le2 (by decide))

def spFOfX (CN : Addr) : Sp := fun vs H Q E => ∃ (x : V) (a b : Int), vs = [x, .int a, .int b] ∧ (b = 0 → E (.ref CN) none H) ∧ (b ≠ 0 → b.natAbs < 2 ^ 4000 ∧ ∀ t, H t = none → Q (.ref t) (upd H t (.tup [.int (nrm a b).1, .int (nrm a b).2])))
section
variable {P : Program} {w : World} {K : PySem.W.Frag} {mg : Str → Option Value} {base : Heap}
theorem sc_Fractions_of : FnScope ["self", "top", "bottom", "common"] ["self", "top", "bottom"] (defScope s_Fractions_of) := ⟨rfl, rfl, rfl, by decide +kernel, rfl, by decide +kernel, by decide +kernel⟩
theorem ok_fofx {f C_NoNumber : Addr} {fd : FuncData} (F : FunD K "of" "Fractions.of" s_Fractions_of f fd) (Ggreatest_divisor : FnB P w K mg base 1 "greatest_divisor" spGcd) (ANoNumber : mg "NoNumber" = some (.ref C_NoNumber)) (xc : XCl K C_NoNumber) :
    FnOk P w K mg base (CXE P w) 2 f fd ["self", "top", "bottom"] (spFOfX C_NoNumber) := by
  refine F.okX sc_Fractions_of (fun vs H Q E h => ?_) (fun cdv A outer s H vs Q E hr h => ?_)
  · obtain ⟨x, a, b, rfl, _⟩ := h
    rfl
  · obtain ⟨x, a, b, rfl, hz, hq⟩ := h
    refine ⟨_, (pss_cons (ps_if (pt_cmpR op_eq (pv 2) pe_int (nomark _))
(pss_one (ps_raise xc.ek ANoNumber (pa_cons pe_str pa_nil)))
pss_nil)
(pss_cons (ps_if (pt_cmpR op_eq (pv 2) pe_int (nomark _))
(pss_one (ps_ret (pe_tup (pa_cons (pv 1) (pa_cons pe_int pa_nil)))))
pss_nil)
(pss_cons (ps_set (i := 3) sc_Fractions_of.nd rfl (Or.inl rfl) (pe_fn Ggreatest_divisor (hr.mono (by first | decide | exact Nat.le_refl _)) (pa_cons (pv 1) (pa_cons (pv 2) pa_nil))))
(pss_cons (ps_if (pt_cmpR op_lt (pv 2) pe_int (nomark _))
(pss_one (ps_set (i := 3) sc_Fractions_of.nd rfl (Or.inl rfl) (pe_un un_neg (pv 3))))
pss_nil)
(pss_one (ps_ret (pe_tup (pa_cons (pe_op op_fdivA (pv 1) (pv 3)) (pa_cons (pe_op op_fdivA (pv 2) (pv 3)) pa_nil))))))))), ?_⟩
    refine ⟨_, rfl, rfl, _, rfl, ?_⟩
    by_cases hb : b = 0
    · subst hb
      rw [decide_eq_true rfl]
      exact iteT ⟨(by show 1 ≤ sizeLine; decide), hz rfl⟩
    obtain ⟨hbs, q⟩ := hq hb
    rw [decide_eq_false (show ¬ V.int b = V.int 0 from fun z => hb (by injection z))]
    refine iteF ⟨_, rfl, rfl, _, rfl, ite2 (fun h => ?_) (fun h => ?_)⟩
    · have h1 : b = 1 := by
        have := of_decide_eq_true h
        injection this
      subst h1
      refine ⟨_, rfl, (by show 2 ≤ sizeLine; decide), fun t ht => ?_⟩
      have z := q t ht
      rw [(nrm_self a 1 (by decide)).mpr (Int.gcd_one_right ..)] at z
      exact z
    · refine ⟨_, rfl, _, rfl, a, b, rfl, ?_⟩
      have hgp : 0 < Int.gcd a b := Int.gcd_pos_of_ne_zero_right a hb
      have hgl : Int.gcd a b ≤ b.natAbs := Nat.le_of_dvd (by omega) (Nat.gcd_dvd_right a.natAbs b.natAbs)
      have sm : (Int.gcd a b) < 2 ^ 4000 := Nat.lt_of_le_of_lt hgl hbs
      refine ⟨_, rfl, _, _, rfl, rfl, _, rfl, ite2 (fun h => ?_) (fun h => ?_)⟩
      · have hb0 : b < 0 := of_decide_eq_true h
        refine ⟨_, rfl, _, rfl, ?_⟩
        have sm2 : CDivA a (-(Int.gcd a b : Int)) := ⟨by omega, by rw [Int.natAbs_neg, Int.natAbs_natCast]; exact sm⟩
        refine ⟨_, rfl, _, rfl, _, _, rfl, rfl, sm2, _, rfl, _, rfl, _, _, rfl, rfl, sm2, (by show 2 ≤ sizeLine; decide), fun t ht => ?_⟩
        have z := q t ht
        unfold nrm at z
        rw [if_pos hb0] at z
        exact z
      · have hb0 : ¬ b < 0 := fun z => h (decide_eq_true z)
        have sm2 : CDivA a (Int.gcd a b : Int) := ⟨by omega, by rw [Int.natAbs_natCast]; exact sm⟩
        refine ⟨_, rfl, _, rfl, _, _, rfl, rfl, sm2, _, rfl, _, rfl, _, _, rfl, rfl, sm2, (by show 2 ≤ sizeLine; decide), fun t ht => ?_⟩
        have z := q t ht
        unfold nrm at z
        rw [if_neg hb0] at z
        exact z
end

/-! sums, products, noughts, contraries as the law reckons them -/
theorem PrimeOk.b {P : Int} (h : PrimeOk P) : 0 ≤ P ∧ P ≤ 9973 ∧ P ≠ 1 := by
  rcases h with h | ⟨h1, h2, _⟩ <;> omega

def spLOp (g : Int → Int × Int → Int × Int → Int × Int) : Sp := fun vs H Q _ => ∃ (P : Int) (u v : V) (x y : Int × Int), vs = [.int P, u, v] ∧ PrimeOk P ∧ At P H u x ∧ At P H v y ∧ OkN P x ∧ OkN P y ∧ Sz 1900 x ∧ Sz 1900 y ∧ ∀ r H', Same H H' → At P H' r (g P x y) → Q r H'

section
variable {P : Program} {w : World} {K : PySem.W.Frag} {mg : Str → Option Value} {base : Heap}
theorem sc__law_plus : FnScope ["_law_prime_here", "_law_one", "_law_other"] ["_law_prime_here", "_law_one", "_law_other"] (defScope s__law_plus) := ⟨rfl, rfl, rfl, by decide +kernel, rfl, by decide +kernel, by decide +kernel⟩
theorem ok_lplus {f : Addr} {fd : FuncData} (F : Fun K "_law_plus" "_law_plus" s__law_plus f fd) (G_law_low : FnB P w K mg base 1 "_law_low" spLow) : FnOk P w K mg base CX0 2 f fd ["_law_prime_here", "_law_one", "_law_other"] (spLOp addN) := by
  refine F.ok sc__law_plus (fun vs H Q E h => ?_) (fun cdv A outer s H vs Q E hr h => ?_)
  · obtain ⟨P, u, v, x, y, rfl, _⟩ := h
    rfl
  · obtain ⟨P, u, v, x, y, rfl, hP, hu, hv, ox, oy, sx, sy, q⟩ := h
    refine ⟨_, (pss_cons (ps_if (pt_cmpR op_eq (pv 0) pe_int (nomark _))
(pss_one (ps_ret (pe_fn G_law_low (hr.mono (by first | decide | exact Nat.le_refl _)) (pa_cons (pe_op op_add (pe_op op_mulA (pe_ix (kix_tup K rfl) (pv 1) pe_int (fun _ _ => rfl)) (pe_ix (kix_tup K rfl) (pv 2) pe_int (fun _ _ => rfl))) (pe_op op_mulA (pe_ix (kix_tup K rfl) (pv 2) pe_int (fun _ _ => rfl)) (pe_ix (kix_tup K rfl) (pv 1) pe_int (fun _ _ => rfl)))) (pa_cons (pe_op op_mulA (pe_ix (kix_tup K rfl) (pv 1) pe_int (fun _ _ => rfl)) (pe_ix (kix_tup K rfl) (pv 2) pe_int (fun _ _ => rfl))) pa_nil)))))
pss_nil)
(pss_one (ps_ret (pe_op op_mod (pe_op op_add (pv 1) (pv 2)) (pv 0))))), ?_⟩
    unfold addN at q
    refine ⟨_, rfl, rfl, _, rfl, ite2 (fun h => ?_) (fun h => ?_)⟩
    · have h0 : P = 0 := by have := of_decide_eq_true h; injection this
      rcases hu with ⟨_, s, rfl, hs⟩ | ⟨z, _⟩
      · rcases hv with ⟨_, t, rfl, ht⟩ | ⟨z, _⟩
        · rw [if_pos h0] at q
          refine ⟨_, rfl, s, _, _, _, rfl, rfl, SqT.of hs, rfl, _, rfl, t, _, _, _, rfl, rfl, SqT.of ht, rfl, _, _, rfl, rfl, mulSz sx.1 sy.2, _, rfl, t, _, _, _, rfl, rfl, SqT.of ht, rfl, _, rfl, s, _, _, _, rfl, rfl, SqT.of hs, rfl, _, _, rfl, rfl, mulSz sy.1 sx.2, _, _, rfl, rfl, ?_⟩
          refine ⟨_, rfl, s, _, _, _, rfl, rfl, SqT.of hs, rfl, _, rfl, t, _, _, _, rfl, rfl, SqT.of ht, rfl, _, _, rfl, rfl, mulSz sx.2 sy.2, _, _, rfl, den_mul ox.den oy.den, mulSz2 sx.2 sy.2, fun r nr => ?_⟩
          exact q _ _ (Same.new nr) (.inl ⟨h0, r, rfl, upd_same⟩)
        · exact absurd h0 z
      · exact absurd h0 z
    · have h0 : P ≠ 0 := fun z => h (decide_eq_true (congrArg V.int z))
      have hPp : 0 < P := by have := hP.b; omega
      rcases hu with ⟨z, _⟩ | ⟨_, rfl, _⟩
      · exact absurd z h0
      · rcases hv with ⟨z, _⟩ | ⟨_, rfl, _⟩
        · exact absurd z h0
        · rw [if_neg h0] at q
          exact ⟨_, rfl, _, rfl, _, _, rfl, rfl, _, rfl, _, _, rfl, rfl, hPp, q _ H (Same.refl H) (.inr ⟨h0, rfl, rfl⟩)⟩
end

def spNought : Sp := fun vs H Q _ => ∃ P : Int, vs = [.int P] ∧ PrimeOk P ∧ ∀ r H', Same H H' → At P H' r (0, 1) → Q r H'
section
variable {P : Program} {w : World} {K : PySem.W.Frag} {mg : Str → Option Value} {base : Heap}
theorem sc__law_nought : FnScope ["_law_prime_here"] ["_law_prime_here"] (defScope s__law_nought) := ⟨rfl, rfl, rfl, by decide +kernel, rfl, by decide +kernel, by decide +kernel⟩
theorem ok_nought {f : Addr} {fd : FuncData} (F : Fun K "_law_nought" "_law_nought" s__law_nought f fd) (T : Blt mg) : FnOk P w K mg base CX0 1 f fd ["_law_prime_here"] spNought := by
  refine F.ok sc__law_nought (fun vs H Q E h => ?_) (fun cdv A outer s H vs Q E hr h => ?_)
  · obtain ⟨P, rfl, _⟩ := h
    rfl
  · obtain ⟨P, rfl, hP, q⟩ := h
    refine ⟨_, (pss_one (ps_ret (pe_ix (kix_list K rfl) (pe_lst (pa_cons (pe_tup (pa_cons pe_int (pa_cons pe_int pa_nil))) (pa_cons pe_int pa_nil))) (pe_callTy call_int1 (by rfl) T.int boot_int' (pa_cons (pe_cmpR op_gt (pv 0) pe_int (nomark _)) pa_nil)) (fun _ _ => rfl)))), ?_⟩
    refine ⟨(by show 2 ≤ sizeLine; decide), fun t nt => ?_⟩
    refine ⟨(by show 2 ≤ sizeLine; decide), fun l nl => ?_⟩
    have s1 := Same.new (o := .tup [.int 0, .int 1]) nt
    have s2 := Same.new (o := .lst [.ref t, .int 0]) nl
    have hb := hP.b
    by_cases h0 : P = 0
    · refine ⟨_, rfl, _, _, rfl, rfl, .inr ⟨_, rfl, l, _, _, _, rfl, rfl, SqL.of upd_same, (by rw [decide_eq_false (by omega)]; rfl), ?_⟩⟩
      exact q _ _ (s1.trans s2) (.inl ⟨h0, t, rfl, s2 _ _ upd_same⟩)
    · refine ⟨_, rfl, _, _, rfl, rfl, .inr ⟨_, rfl, l, _, _, _, rfl, rfl, SqL.of upd_same, (by rw [decide_eq_true (by omega)]; rfl), ?_⟩⟩
      exact q _ _ (s1.trans s2) (.inr ⟨h0, rfl, rfl⟩)
end

def spUnit : Sp := fun vs H Q _ => ∃ P : Int, vs = [.int P] ∧ PrimeOk P ∧ ∀ r H', Same H H' → At P H' r (1, 1) → Q r H'
section
variable {P : Program} {w : World} {K : PySem.W.Frag} {mg : Str → Option Value} {base : Heap}
theorem sc__law_unit : FnScope ["_law_prime_here"] ["_law_prime_here"] (defScope s__law_unit) := ⟨rfl, rfl, rfl, by decide +kernel, rfl, by decide +kernel, by decide +kernel⟩
theorem ok_unit {f : Addr} {fd : FuncData} (F : Fun K "_law_unit" "_law_unit" s__law_unit f fd) (T : Blt mg) : FnOk P w K mg base CX0 1 f fd ["_law_prime_here"] spUnit := by
  refine F.ok sc__law_unit (fun vs H Q E h => ?_) (fun cdv A outer s H vs Q E hr h => ?_)
  · obtain ⟨P, rfl, _⟩ := h
    rfl
  · obtain ⟨P, rfl, hP, q⟩ := h
    refine ⟨_, (pss_one (ps_ret (pe_ix (kix_list K rfl) (pe_lst (pa_cons (pe_tup (pa_cons pe_int (pa_cons pe_int pa_nil))) (pa_cons pe_int pa_nil))) (pe_callTy call_int1 (by rfl) T.int boot_int' (pa_cons (pe_cmpR op_gt (pv 0) pe_int (nomark _)) pa_nil)) (fun _ _ => rfl)))), ?_⟩
    refine ⟨(by show 2 ≤ sizeLine; decide), fun t nt => ?_⟩
    refine ⟨(by show 2 ≤ sizeLine; decide), fun l nl => ?_⟩
    have s1 := Same.new (o := .tup [.int 1, .int 1]) nt
    have s2 := Same.new (o := .lst [.ref t, .int 1]) nl
    have hb := hP.b
    by_cases h0 : P = 0
    · refine ⟨_, rfl, _, _, rfl, rfl, .inr ⟨_, rfl, l, _, _, _, rfl, rfl, SqL.of upd_same, (by rw [decide_eq_false (by omega)]; rfl), ?_⟩⟩
      exact q _ _ (s1.trans s2) (.inl ⟨h0, t, rfl, s2 _ _ upd_same⟩)
    · refine ⟨_, rfl, _, _, rfl, rfl, .inr ⟨_, rfl, l, _, _, _, rfl, rfl, SqL.of upd_same, (by rw [decide_eq_true (by omega)]; rfl), ?_⟩⟩
      exact q _ _ (s1.trans s2) (.inr ⟨h0, rfl, rfl⟩)
end

/-! a drawn number as a pair; data -/
theorem pow103 : (10 : Nat) ^ 31 < 2 ^ 103 := by decide +kernel
theorem NumIs.at_ {P : Int} {H : Hp} {v : V} (hP : PrimeOk P) (h : NumIs P H v) : ∃ x, At P H v x ∧ OkN P x ∧ Sz 103 x := by
  have hb := hP.b
  rcases h with ⟨h0, r, rfl, r0, r1⟩ | ⟨h0, t, n, d, rfl, ht, hd, hg, hn, hd2⟩
  · have h3 : 2 ^ 14 ≤ 2 ^ 103 := pow_le2 (by decide)
    exact ⟨(r, 1), .inr ⟨h0, rfl, rfl⟩, .inr ⟨h0, r0, r1, rfl⟩, by show r.natAbs < 2 ^ 103; omega, by show (1 : Int).natAbs < 2 ^ 103; omega⟩
  · exact ⟨(n, d), .inl ⟨h0, t, rfl, ht⟩, .inl ⟨h0, hd, hg⟩, Nat.lt_trans hn pow103, Nat.lt_trans hd2 pow103⟩
def dN (P : Int) (x : Int × Int) : PyData := if P = 0 then dInts [x.1, x.2] else .int x.1
theorem dr_at {K : PySem.W.Frag} {P : Int} {H : Hp} {v : V} {x : Int × Int} (h : At P H v x) : DR K H (dN P x) v := by
  unfold dN
  rcases h with ⟨h0, t, rfl, e⟩ | ⟨h0, rfl, _⟩
  · rw [if_pos h0]
    exact dr_ints (ns := [x.1, x.2]) (SqT.of e)
  · rw [if_neg h0]
    exact .int _
theorem shaped_dN (P : Int) (x : Int × Int) : SeqAt.shaped (dN P x) = true := by
  unfold dN
  split
  · exact shaped_ints _
  · rfl
theorem At.thing {K : PySem.W.Frag} {P : Int} {H : Hp} {v : V} {x : Int × Int} (h : At P H v x) (o : OkN P x) (s : Sz 1900 x) : Thing K H v ∧ numV P H v = true := by
  have p2 : (2 : Nat) ^ 1900 < 2 ^ 2000 := Nat.pow_lt_pow_right (by decide) (by decide)
  rcases h with ⟨h0, t, rfl, e⟩ | ⟨h0, rfl, _⟩
  · rcases o with ⟨_, hd, hg⟩ | ⟨z, _⟩
    · refine ⟨⟨.tup e, .inr ⟨t, _, rfl, e, by show 2 ≤ 1000; decide, typed_ints [x.1, x.2], fun i hi => ?_⟩⟩, ?_⟩
      · have h : i = x.1 ∨ i = x.2 := by
          rcases List.mem_cons.mp hi with z | z
          · injection z with z; exact .inl z
          · rcases List.mem_cons.mp z with z | z
            · injection z with z; exact .inr z
            · cases z
        rcases h with rfl | rfl
        · exact Nat.lt_trans s.1 p2
        · exact Nat.lt_trans s.2 p2
      · unfold numV
        rw [if_pos h0, fracV_tup e]
        show (decide (1 ≤ x.2) && decide (Int.gcd x.1 x.2 = 1)) = true
        rw [decide_eq_true (show 1 ≤ x.2 by omega), decide_eq_true hg]
        rfl
    · exact absurd h0 z
  · rcases o with ⟨z, _⟩ | ⟨_, r0, r1, _⟩
    · exact absurd z h0
    · refine ⟨⟨.int _, .inl ⟨_, .int _, rfl, fun a z => by cases z⟩⟩, ?_⟩
      unfold numV
      rw [if_neg h0]
      show (decide (0 ≤ x.1) && decide (x.1 < P)) = true
      rw [decide_eq_true r0, decide_eq_true r1]
      rfl

def spDeg (K : PySem.W.Frag) : Sp := fun vs H Q _ => ∃ (a : Addr) (ns : List Int), vs = [.ref a] ∧ SqT K H a (ns.map V.int) ∧ Q (.int ns.sum) H
section
variable {P : Program} {w : World} {K : PySem.W.Frag} {mg : Str → Option Value} {base : Heap}
theorem sc_degree : FnScope ["one"] ["one"] (defScope s_degree) := ⟨rfl, rfl, rfl, by decide +kernel, rfl, by decide +kernel, by decide +kernel⟩
theorem ok_degree {f : Addr} {fd : FuncData} (F : Fun K "degree" "degree" s_degree f fd) (T : Blt mg) : FnOk P w K mg base CX0 1 f fd ["one"] (spDeg K) := by
  refine F.ok sc_degree (fun vs H Q E h => ?_) (fun cdv A outer s H vs Q E hr h => ?_)
  · obtain ⟨a, ns, rfl, _⟩ := h
    rfl
  · obtain ⟨a, ns, rfl, ha, q⟩ := h
    refine ⟨_, (pss_one (ps_ret (kpl_sum K T (pv 0) true))), ?_⟩
    exact ⟨_, rfl, a, ns, rfl, sqvT ha, q⟩
end

/-! sums: parts in the heap, the pairs they come to -/
abbrev Mono := List Int × (Int × Int)
def PartR (P : Int) (H : Hp) (v : V) (p : Mono) : Prop := ∃ (t k : Addr) (u : V), v = .ref t ∧ H t = some (.tup [.ref k, u]) ∧ H k = some (.tup (p.1.map V.int)) ∧ At P H u p.2
abbrev PartsR (P : Int) (H : Hp) : List V → List Mono → Prop := Paired (PartR P H)
theorem PartR.mono {P : Int} {H H' : Hp} {v : V} {p : Mono} (k : ∀ t xs, H t = some (.tup xs) → H' t = some (.tup xs)) (h : PartR P H v p) : PartR P H' v p := by
  obtain ⟨t, c, u, rfl, h1, h2, h3⟩ := h
  exact ⟨t, c, u, rfl, k _ _ h1, k _ _ h2, h3.mono k⟩
theorem PartsR.mono {P : Int} {H H' : Hp} (k : ∀ t xs, H t = some (.tup xs) → H' t = some (.tup xs)) : ∀ {vs : List V} {ps : List Mono}, PartsR P H vs ps → PartsR P H' vs ps
  | _, _, .nil => .nil
  | _, _, .cons q r => .cons (q.mono k) (PartsR.mono k r)
theorem PartsR.at_ {P : Int} {H : Hp} : ∀ {vs : List V} {ps : List Mono} {i : Nat} {v : V}, PartsR P H vs ps → vs[i]? = some v → ∃ p, ps[i]? = some p ∧ PartR P H v p
  | _, _, 0, v, .cons q r, e => by cases e; exact ⟨_, rfl, q⟩
  | _ :: _, _ :: _, i + 1, v, .cons q r, e => PartsR.at_ (i := i) r e
theorem paired_at {α β : Type} {R : α → β → Prop} : ∀ {xs : List α} {ys : List β} {i : Nat} {x : α} {y : β}, Paired R xs ys → xs[i]? = some x → ys[i]? = some y → R x y
  | _, _, 0, x, y, .cons q r, e1, e2 => by cases e1; cases e2; exact q
  | _ :: _, _ :: _, i + 1, x, y, .cons q r, e1, e2 => paired_at (i := i) r e1 e2
def lstep (P : Int) (m : List Mono) (p : Mono) : List Mono := aput m p.1 (addN P ((aval m p.1).getD (0, 1)) p.2)
def acc (P : Int) (ps : List Mono) : List Mono := ps.foldl (lstep P) []
theorem acc_snoc (P : Int) (ps : List Mono) (p : Mono) : acc P (ps ++ [p]) = lstep P (acc P ps) p := by
  unfold acc
  rw [List.foldl_append]
  rfl
theorem acc_take {P : Int} {ps : List Mono} {i : Nat} {p : Mono} (h : ps[i]? = some p) : acc P (ps.take (i + 1)) = lstep P (acc P (ps.take i)) p := by
  rw [List.take_add_one, h]
  exact acc_snoc P _ p
def SumOk (P : Int) (ps : List Mono) : Prop := (∀ p ∈ ps, OkN P p.2 ∧ Sz 1900 p.2) ∧ ∀ i, ∀ p ∈ acc P (ps.take i), Sz 1900 p.2
theorem acc_nodup (P : Int) (ps : List Mono) : ((acc P ps).map (·.1)).Nodup := by
  unfold acc
  have go : ∀ (ps m : List Mono), (m.map (·.1)).Nodup → ((ps.foldl (lstep P) m).map (·.1)).Nodup := by
    intro ps
    induction ps with
    | nil => intro m h; exact h
    | cons p ps ih => intro m h; exact ih _ (aput_nodup h)
  exact go ps [] (by simp)
theorem acc_len (P : Int) (ps : List Mono) : (acc P ps).length ≤ ps.length := by
  unfold acc
  have go : ∀ (ps m : List Mono), (ps.foldl (lstep P) m).length ≤ m.length + ps.length := by
    intro ps
    induction ps with
    | nil => intro m; simp
    | cons p ps ih =>
      intro m
      have h1 := ih (lstep P m p)
      have h2 : (lstep P m p).length ≤ m.length + 1 := aput_len _ _ _
      show (ps.foldl (lstep P) (lstep P m p)).length ≤ _
      rw [List.length_cons]
      omega
  simpa using go ps []
theorem acc_ok {P : Int} (hP : 0 ≤ P) (h1 : P ≠ 1) {ps : List Mono} (h : ∀ p ∈ ps, OkN P p.2) : ∀ p ∈ acc P ps, OkN P p.2 := by
  unfold acc
  have go : ∀ (ps m : List Mono), (∀ p ∈ ps, OkN P p.2) → (∀ p ∈ m, OkN P p.2) → ∀ p ∈ ps.foldl (lstep P) m, OkN P p.2 := by
    intro ps
    induction ps with
    | nil => intro m _ h; exact h
    | cons p ps ih =>
      intro m hp hm
      refine ih _ (fun q hq => hp q (by simp [hq])) fun q hq => ?_
      rcases aput_mem hq with z | z
      · rw [z]
        refine okN_add hP ?_ (hp p (by simp))
        cases e : aval m p.1 with
        | none => exact okN_zero hP h1
        | some y => exact hm _ (aval_mem e)
      · exact hm q z
  exact go ps [] h (fun p hp => nomatch hp)
def nz (p : Mono) : Bool := decide (p.2 ≠ (0, 1))
def hk (p : Mono) : Int × List Int := (p.1.sum, p.1)
def IsSum (P : Int) (ps out : List Mono) : Prop := out.Perm ((acc P ps).filter nz) ∧ out.Pairwise fun a b => klt (hk b) (hk a) = true
theorem isSum_unique {P : Int} {ps a b : List Mono} (h1 : IsSum P ps a) (h2 : IsSum P ps b) : a = b :=
  fall_unique (lt := fun x y => klt (hk x) (hk y)) (fun _ => klt_irr _) (fun _ _ _ => klt_trans) (h1.1.trans h2.1.symm) h1.2 h2.2
theorem eqv_dN2 {P : Int} {x y : Int × Int} (hx : OkN P x) (hy : OkN P y) : PyData.eqv (dN P x) (dN P y) = decide (x = y) := by
  unfold dN
  by_cases h0 : P = 0
  · rw [if_pos h0, if_pos h0, eqv_ints]
    apply decide_eq_decide.mpr
    constructor
    · intro z
      injection z with z1 z2
      injection z2 with z2
      exact Prod.ext z1 z2
    · intro z; rw [z]
  · rw [if_neg h0, if_neg h0]
    rcases hx with ⟨z, _⟩ | ⟨_, _, _, x2⟩
    · exact absurd z h0
    rcases hy with ⟨z, _⟩ | ⟨_, _, _, y2⟩
    · exact absurd z h0
    have e : PyData.eqv (.int x.1) (.int y.1) = decide (x.1 = y.1) := by simp only [PyData.eqv]; rfl
    rw [e]
    apply decide_eq_decide.mpr
    exact ⟨fun z => Prod.ext z (x2.trans y2.symm), fun z => by rw [z]⟩
theorem sz_01 : Sz 1900 (0, 1) := ⟨Nat.pow_pos (by decide), Nat.one_lt_two_pow (by decide)⟩
/-! the key of a part, read off the heap -/
def vI : V → Int
  | .int i => i
  | _ => 0
def tupI (H : Hp) : V → List Int
  | .ref k => match H k with
    | some (.tup xs) => xs.map vI
    | _ => []
  | _ => []
def keyK (H : Hp) (v : V) : Int × List Int := ((tupI H v).sum, tupI H v)
def keyP (H : Hp) : V → Int × List Int
  | .ref t => match H t with
    | some (.tup (k :: _)) => keyK H k
    | _ => (0, [])
  | _ => (0, [])
theorem tupI_of {H : Hp} {k : Addr} {ns : List Int} (h : H k = some (.tup (ns.map V.int))) : tupI H (.ref k) = ns := by
  show (match H k with | some (.tup xs) => xs.map vI | _ => []) = ns
  rw [h]
  show (ns.map V.int).map vI = ns
  rw [List.map_map]
  exact List.map_id'' (fun _ => rfl) ns
theorem PartR.key {P : Int} {H : Hp} {v : V} {p : Mono} (h : PartR P H v p) : keyP H v = hk p := by
  obtain ⟨t, k, u, rfl, h1, h2, _⟩ := h
  show (match H t with | some (.tup (k :: _)) => keyK H k | _ => (0, [])) = hk p
  rw [h1]
  show keyK H (.ref k) = hk p
  unfold keyK hk
  rw [tupI_of h2]
theorem PartsR.keys {P : Int} {H : Hp} : ∀ {vs : List V} {ps : List Mono}, PartsR P H vs ps → vs.map (keyP H) = ps.map hk
  | _, _, .nil => rfl
  | _, _, .cons q r => by rw [List.map_cons, List.map_cons, q.key, PartsR.keys r]
theorem hk_nodup {ps : List Mono} (h : (ps.map (·.1)).Nodup) : (ps.map hk).Nodup := by
  have e : ps.map hk = (ps.map (·.1)).map (fun k : List Int => (k.sum, k)) := by rw [List.map_map]; rfl
  rw [e]
  exact List.Pairwise.map _ (fun a b hab z => hab (congrArg Prod.snd z)) h
/-- a permutation of the heap's parts is one of the pairs -/
theorem PartsR.perm {P : Int} {H : Hp} {vs ws : List V} {ps : List Mono} (h : PartsR P H vs ps) (p : ws.Perm vs) : ∃ qs : List Mono, qs.Perm ps ∧ PartsR P H ws qs := by
  have go : ∀ {ws vs : List V}, ws.Perm vs → ∀ ps : List Mono, PartsR P H vs ps → ∃ qs : List Mono, qs.Perm ps ∧ PartsR P H ws qs := by
    intro ws vs p
    induction p with
    | nil => intro ps h; exact ⟨ps, .refl _, h⟩
    | cons x p ih =>
      intro ps h
      cases h with
      | cons q r =>
        obtain ⟨qs, e, h'⟩ := ih _ r
        exact ⟨_ :: qs, e.cons _, .cons q h'⟩
    | swap x y l =>
      intro ps h
      cases h with
      | cons q r => cases r with
        | cons q2 r => exact ⟨_ :: _ :: _, .swap _ _ _, .cons q2 (.cons q r)⟩
    | trans p1 p2 ih1 ih2 =>
      intro ps h
      obtain ⟨qs, e, h'⟩ := ih2 _ h
      obtain ⟨rs, e2, h2⟩ := ih1 _ h'
      exact ⟨rs, e2.trans e, h2⟩
  exact go p ps h
theorem PartsR.fall {P : Int} {H : Hp} {lt : Int × List Int → Int × List Int → Bool} : ∀ {vs : List V} {ps : List Mono}, PartsR P H vs ps → vs.Pairwise (fun x y => lt (keyP H y) (keyP H x) = true) → ps.Pairwise (fun a b => lt (hk b) (hk a) = true) := by
  intro vs ps h hp
  have z : (vs.map (keyP H)).Pairwise (fun a b => lt b a = true) := List.pairwise_map.mpr hp
  rw [h.keys] at z
  exact List.pairwise_map.mp z
theorem PartsR.snoc {P : Int} {H : Hp} {v : V} {p : Mono} (q : PartR P H v p) : ∀ {vs : List V} {ps : List Mono}, PartsR P H vs ps → PartsR P H (vs ++ [v]) (ps ++ [p])
  | _, _, .nil => .cons q .nil
  | _, _, .cons a r => .cons a (PartsR.snoc q r)
theorem PartsR.mem {P : Int} {H : Hp} : ∀ {vs : List V} {ps : List Mono} {v : V}, PartsR P H vs ps → v ∈ vs → ∃ p ∈ ps, PartR P H v p
  | _, _, v, .cons q r, hv => by
    rcases List.mem_cons.mp hv with rfl | hv
    · exact ⟨_, by simp, q⟩
    · obtain ⟨p, hp, h⟩ := PartsR.mem r hv
      exact ⟨p, by simp [hp], h⟩
theorem take_filter {ps : List Mono} {i : Nat} {p : Mono} (h : ps[i]? = some p) : (ps.take (i + 1)).filter nz = (ps.take i).filter nz ++ (if nz p = true then [p] else []) := by
  rw [List.take_add_one, h, List.filter_append]
  congr 1
  show List.filter nz [p] = _
  by_cases e : nz p = true
  · rw [if_pos e]; simp [e]
  · rw [if_neg e]; simp [e]
theorem zero_if (P : Int) : (if P = 0 then ((0 : Int), (1 : Int)) else (0 % P, 1)) = (0, 1) := by
  split
  · rfl
  · rw [Int.zero_emod]

/-! the sum, as the law reckons it -/
def spKey (K : PySem.W.Frag) : Sp := fun vs H Q _ => ∃ (t k : Addr) (u : V) (ns : List Int), vs = [.ref t] ∧ H t = some (.tup [.ref k, u]) ∧ SqT K H k (ns.map V.int) ∧ ∀ r, H r = none → Q (.ref r) (upd H r (.tup [.int ns.sum, .ref k]))
def spLSum : Sp := fun vs H Q _ => ∃ (l : Addr) (P : Int) (ts : List V) (ps : List Mono), vs = [.int P, .ref l] ∧ PrimeOk P ∧ H l = some (.lst ts) ∧ PartsR P H ts ps ∧ ps.length ≤ 60 ∧ SumOk P ps ∧
  ∀ (d : Addr) (rs : List V) (out : List Mono) (H' : Hp), H d = none → Same H H' → H' d = some (.lst rs) → PartsR P H' rs out → IsSum P ps out → Q (.ref d) H'
section
variable {P : Program} {w : World} {K : PySem.W.Frag} {mg : Str → Option Value} {base : Heap}
theorem sc__law_key : FnScope ["_law_part"] ["_law_part"] (defScope s__law_key) := ⟨rfl, rfl, rfl, by decide +kernel, rfl, by decide +kernel, by decide +kernel⟩
theorem ok_lkey {f : Addr} {fd : FuncData} (F : Fun K "_law_key" "_law_key" s__law_key f fd) (T : Blt mg) : FnOk P w K mg base CX0 1 f fd ["_law_part"] (spKey K) := by
  refine F.ok sc__law_key (fun vs H Q E h => ?_) (fun cdv A outer s H vs Q E hr h => ?_)
  · obtain ⟨t, k, u, ns, rfl, _⟩ := h
    rfl
  · obtain ⟨t, k, u, ns, rfl, ht, hk, q⟩ := h
    refine ⟨_, (pss_one (ps_ret (pe_tup (pa_cons (kpl_sum K T (pe_ix (kix_tup K rfl) (pv 0) pe_int (fun _ _ => rfl)) true) (pa_cons (pe_ix (kix_tup K rfl) (pv 0) pe_int (fun _ _ => rfl)) pa_nil))))), ?_⟩
    exact ⟨_, rfl, t, _, _, _, rfl, rfl, SqT.of ht, rfl, k, ns, rfl, sqvT hk, _, rfl, t, _, _, _, rfl, rfl, SqT.of ht, rfl, by show 2 ≤ sizeLine; decide, q⟩
theorem sc__law_sum : FnScope ["_law_prime_here", "_law_parts_here", "_law_come", "_law_product", "_law_number_here", "_law_found"] ["_law_prime_here", "_law_parts_here"] (defScope s__law_sum) := ⟨rfl, rfl, rfl, by decide +kernel, rfl, by decide +kernel, by decide +kernel⟩
theorem ok_lsum {f : Addr} {fd : FuncData} (F : Fun K "_law_sum" "_law_sum" s__law_sum f fd) (T : Blt mg) (G_law_plus : FnB P w K mg base 2 "_law_plus" (spLOp addN)) (G_law_nought : FnB P w K mg base 1 "_law_nought" spNought) (G_law_key : FnB P w K mg base 1 "_law_key" (spKey K)) :
    FnOk P w K mg base CX0 4 f fd ["_law_prime_here", "_law_parts_here"] spLSum := by
  refine F.ok sc__law_sum (fun vs H Q E h => ?_) (fun cdv A outer s H vs Q E hr h => ?_)
  · obtain ⟨l, P, ts, ps, rfl, _⟩ := h
    rfl
  · obtain ⟨l, P, ts, ps, rfl, hP, hl, hps, hn, hok, q⟩ := h
    have hB := hP.b
    refine ⟨_, (pss_cons (ps_set (i := 2) sc__law_sum.nd rfl (Or.inr rfl) pe_dnewT)
(pss_cons (ps_for PassesOwn.never rfl (kpi_list K rfl (pv 1)) (pg_pair K (i := 3) (j := 4) rfl rfl sc__law_sum.nd rfl rfl rfl rfl)
(pss_one (ps_dput (hu1 hr) (pv 2) (pv 3) (pe_fn G_law_plus (hr.mono (by first | decide | exact Nat.le_refl _)) (pa_cons (pv 0) (pa_cons (pe_dget2 (hu1 hr) (pv 2) (pv 3) (pe_fn G_law_nought (hr.mono (by first | decide | exact Nat.le_refl _)) (pa_cons (pv 0) pa_nil)) ⟨rfl, rfl, rfl, rfl⟩) (pa_cons (pv 4) pa_nil)))) rfl)))
(pss_cons (ps_setc (i := 5) sc__law_sum.nd rfl (Or.inl rfl) (N := ["_law_product", "_law_come", "_law_prime_here"]) (src := [none, some 2, some 0]) rfl rfl rfl (by exact (kpi_dict K rfl (pv 2))) (fun _ _ _ => by exact ⟨by exact (pg_nm (i := 0) nd_1 rfl rfl), (pif_one (pt_cmpR (kneD K rfl hr.units) (pe_dget (hu1 hr) (pv 1) (pv 0) (fun _ _ => rfl)) (pe_fn G_law_nought (hr.mono (by first | decide | exact Nat.le_refl _)) (pa_cons (pv 2) pa_nil)) (nomark _))), by exact (pe_tup (pa_cons (pv 0) (pa_cons (pe_dget (hu1 hr) (pv 1) (pv 0) (fun _ _ => rfl)) pa_nil)))⟩))
(pss_one (ps_ret (pe_sortK T G_law_key (hr.mono (by first | decide | exact Nat.le_refl _)) (pv 5))))))), ?_⟩
    have lt : ts.length = ps.length := Paired.length hps
    intro d hd
    have dl : d ≠ l := fun z => by rw [z, hl] at hd; cases hd
    refine ⟨_, rfl, l, rfl, ⟨_, SqL.of (by rw [upd_ne dl.symm]; exact hl)⟩, for_list (xs := ts) (fun i σ H' => ∃ (x3 x4 : Option V) (kvs : List (List Key × V)), σ = [some (.int P), some (.ref l), some (.ref d), x3, x4, none] ∧ Same H H' ∧ H' d = some (.dT kvs) ∧ DictR (At P H') kvs (acc P (ps.take i))) ?_ ?_ ?_ ?_⟩
    · exact ⟨none, none, [], rfl, Same.new hd, upd_same, .nil⟩
    · rintro i σ H' _ ⟨x3, x4, kvs, rfl, sm, _⟩
      exact SqL.of (sm _ _ hl)
    · rintro i x σ H1 hx ⟨x3, x4, kvs, rfl, sm, hd1, dr⟩
      obtain ⟨p, ep, t, k, u, rfl, ht, hk, hu⟩ := hps.at_ hx
      have tk : ∀ t xs, H t = some (.tup xs) → H1 t = some (.tup xs) := fun t xs e => sm _ _ e
      refine ⟨t, _, rfl, SqT.of (sm _ _ ht), rfl, _, _, rfl, _, _, rfl, rfl, ?_⟩
      refine ⟨_, rfl, _, rfl, d, rfl, .inr ⟨kvs, .inl hd1⟩, _, rfl, _, rfl, P, rfl, hP, fun r H2 s2 a0 => ?_⟩
      have hk2 : H2 k = some (.tup ((kI p.1).map kV)) := by rw [kI_kV]; exact s2 _ _ (sm _ _ hk)
      refine ⟨_, DGet.t (s2 _ _ hd1) hk2, ?_⟩
      have mp : p ∈ ps := List.mem_of_getElem? ep
      obtain ⟨op, zp⟩ := hok.1 p mp
      have okm : ∀ q ∈ acc P (ps.take i), OkN P q.2 := acc_ok hB.1 hB.2.2 fun q hq => (hok.1 q (List.mem_of_mem_take hq)).1
      have hw : At P H2 ((valV kvs (kI p.1)).getD r) ((aval (acc P (ps.take i)) p.1).getD (0, 1)) ∧ OkN P ((aval (acc P (ps.take i)) p.1).getD (0, 1)) ∧ Sz 1900 ((aval (acc P (ps.take i)) p.1).getD (0, 1)) := by
        rcases dr.val p.1 with ⟨e1, e2⟩ | ⟨v, y, e1, e2, ra⟩
        · rw [e1, e2]
          exact ⟨a0, okN_zero hB.1 hB.2.2, sz_01⟩
        · rw [e1, e2]
          exact ⟨ra.same s2, okm _ (aval_mem e2), hok.2 i _ (aval_mem e2)⟩
      refine ⟨_, rfl, P, _, u, _, p.2, rfl, hP, hw.1, (hu.same (sm.trans s2)), hw.2.1, op, hw.2.2, zp, fun r3 H3 s3 a3 => ?_⟩
      refine ⟨_, rfl, _, rfl, d, _, rfl, DPut.t (k := kI p.1) (s3 _ _ (s2 _ _ hd1)) (s3 _ _ hk2) ?_, ?_⟩
      · have h1 : kvs.length = (acc P (ps.take i)).length := Paired.length dr
        have h2 := acc_len P (ps.take i)
        rw [List.length_take] at h2
        rw [h1, sizeLine_eq]
        omega
      · have d3 : H3 d = some (.dT kvs) := s3 _ _ (s2 _ _ hd1)
        have keep : ∀ c o, H3 c = some o → c ≠ d → upd H3 d (.dT (putK kvs (kI p.1) r3)) c = some o := fun c o e hc => by rw [upd_ne hc]; exact e
        have tk3 : ∀ t xs, H3 t = some (.tup xs) → upd H3 d (.dT (putK kvs (kI p.1) r3)) t = some (.tup xs) := fun t xs e => keep t _ e (ne_of e d3 (by intro z; cases z))
        refine ⟨_, _, _, rfl, fun c o e => keep c o (s3 _ _ (s2 _ _ (sm c o e))) (ne_of_none e hd), upd_same, ?_⟩
        rw [acc_take ep]
        exact DictR.put (a3.mono tk3) (dr.mono fun v x z => ((z.same s2).same s3).mono tk3)
    · rintro σ H1 ⟨x3, x4, kvs, rfl, sm, hd1, dr⟩
      rw [lt, List.take_length] at dr
      have nd := acc_nodup P ps
      have lm := acc_len P ps
      have okm : ∀ q ∈ acc P ps, OkN P q.2 := acc_ok hB.1 hB.2.2 fun q hq => (hok.1 q hq).1
      unfold IsSum at q
      generalize acc P ps = m at *
      refine ⟨_, rfl, d, kvs, rfl, hd1, fun o as pk => ?_⟩
      have tp := dr.tups pk
      have la : as.length = m.length := Paired.length tp
      have keep : ∀ c u, H1 c = some u → c ≠ d → upd H1 d (.frz o (.dT kvs)) c = some u := fun c u e hc => by rw [upd_ne hc]; exact e
      have tk : ∀ t xs, H1 t = some (.tup xs) → upd H1 d (.frz o (.dT kvs)) t = some (.tup xs) := fun t xs e => keep t _ e (ne_of e hd1 (by intro z; cases z))
      have smF : Same H (upd H1 d (.frz o (.dT kvs))) := fun c u e => keep c u (sm c u e) (ne_of_none e hd)
      have hfz : upd H1 d (.frz o (.dT kvs)) d = some (.frz o (.dT kvs)) := upd_same
      have dr' : DictR (At P (upd H1 d (.frz o (.dT kvs)))) kvs m := dr.mono fun v x z => z.mono tk
      have tpF : ∀ (i : Nat) (a : Addr) (p : Mono), as[i]? = some a → m[i]? = some p → upd H1 d (.frz o (.dT kvs)) a = some (.tup (p.1.map V.int)) := fun i a p h1 h2 => tk _ _ (show H1 a = some (.tup (p.1.map V.int)) from paired_at (R := fun (a : Addr) (q : Mono) => H1 a = some (.tup (q.1.map V.int))) tp h1 h2)
      generalize upd H1 d (.frz o (.dT kvs)) = HF at *
      refine comp_by (n := m.length) (σ0 := [none, some (.ref d), some (.int P)]) rfl (fun acc i zs σ H' => ∃ u : Option V, σ = [u, some (.ref d), some (.int P)] ∧ Same HF H' ∧ PartsR P H' zs ((m.take i).filter nz)) (by rw [sizeLine_eq]; omega) (fun acc hacc => ⟨none, rfl, Same.new hacc, .nil⟩) ?_ ?_ ?_ ?_
      · rintro acc i zs σ H' hacc hi hz ⟨u, rfl, sm', _⟩
        exact ⟨sm' _ _ hfz, by rw [List.length_map, la]; exact hi⟩
      · rintro acc zs σ H' hacc hz ⟨u, rfl, sm', _⟩
        exact ⟨sm' _ _ hfz, by rw [List.length_map, la]; exact Nat.le_refl _⟩
      · rintro acc i zs σ H9 x H' hacc hi hz hzl ⟨u, rfl, sm', pr⟩ ⟨rfl, hx⟩
        obtain ⟨a, ea, rfl⟩ : ∃ a, as[i]? = some a ∧ x = .ref a := by
          rw [List.getElem?_map] at hx
          cases e : as[i]? with
          | none => rw [e] at hx; cases hx
          | some a => rw [e] at hx; exact ⟨a, rfl, (Option.some.inj hx).symm⟩
        obtain ⟨p, ep⟩ : ∃ p, m[i]? = some p := ⟨_, List.getElem?_eq_getElem hi⟩
        have mp : p ∈ m := List.mem_of_getElem? ep
        have ha := tpF i a p ea ep
        obtain ⟨v, e1, av⟩ : ∃ v, valV kvs (kI p.1) = some v ∧ At P HF v p.2 := by
          rcases dr'.val p.1 with ⟨_, e2⟩ | ⟨v, y, e1, e2, ra⟩
          · rw [aval_of nd (show (p.1, p.2) ∈ m from mp)] at e2; cases e2
          · rw [aval_of nd (show (p.1, p.2) ∈ m from mp)] at e2
            cases e2
            exact ⟨v, e1, ra⟩
        have dg : ∀ H2, Same HF H2 → DGet H2 d (.ref a) (some v) := fun H2 s2 => .inr ⟨kvs, kI p.1, a, .inr ⟨o, s2 _ _ hfz⟩, rfl, by rw [kI_kV]; exact s2 _ _ ha, e1.symm⟩
        refine ⟨_, rfl, _, rfl, d, v, rfl, dg H' sm', _, rfl, P, rfl, hP, fun r H3 s3 a3 => ?_⟩
        have s3' := sm'.trans s3
        refine ⟨dN P p.2, dN P (0, 1), dr_at (av.same s3'), dr_at a3, shaped_dN _ _, shaped_dN _ _, ?_⟩
        rw [eqv_dN2 (okm p mp) (okN_zero hB.1 hB.2.2)]
        have en : (!decide (p.2 = (0, 1))) = nz p := by unfold nz; rw [decide_not]
        rw [en]
        have pr3 := pr.mono fun t xs e => s3 _ _ e
        refine ⟨_, rfl, ite2 (fun h => ?_) (fun h => ?_)⟩
        · refine ⟨_, rfl, _, rfl, _, rfl, d, v, rfl, dg H3 s3', by show 2 ≤ sizeLine; decide, fun t nt => ?_⟩
          have s4 := Same.new (o := .tup [.ref a, v]) nt
          have s4' := s3'.trans s4
          have hz4 := s4 _ _ (s3 _ _ hz)
          have keep4 : ∀ c u, (upd H3 t (.tup [.ref a, v])) c = some u → c ≠ acc → upd (upd H3 t (.tup [.ref a, v])) acc (.lst (zs ++ [.ref t])) c = some u := fun c u e hc => by rw [upd_ne hc]; exact e
          have tk4 : ∀ c xs, (upd H3 t (.tup [.ref a, v])) c = some (.tup xs) → upd (upd H3 t (.tup [.ref a, v])) acc (.lst (zs ++ [.ref t])) c = some (.tup xs) := fun c xs e => keep4 c _ e (ne_of e hz4 (by intro z; cases z))
          refine ⟨zs, hz4, by rw [sizeLine_eq]; omega, _, upd_same, by rw [List.length_append, List.length_singleton]; omega, _, rfl, fun c u e => keep4 c u (s4' c u e) (ne_of_none e hacc), ?_⟩
          rw [take_filter ep, if_pos h]
          exact (PartsR.snoc (p := p) ⟨t, a, v, rfl, upd_same, s4' _ _ ha, av.same s4'⟩ (pr3.mono fun t xs e => s4 _ _ e)).mono tk4
        · refine ⟨zs, s3 _ _ hz, by omega, _, rfl, s3', ?_⟩
          rw [take_filter ep, if_neg h, List.append_nil]
          exact pr3
      · rintro acc zs σ H' hacc hz hzl ⟨u, rfl, sm', pr⟩
        rw [List.take_length] at pr
        have sub : ((m.filter nz).map (·.1)).Nodup := (List.Sublist.map _ List.filter_sublist).nodup nd
        refine ⟨_, rfl, .inl ⟨acc, zs, rfl, SqL.of hz, by omega, keyP H', ?_, fun y hy H2 s2 => ?_, fun D H2 ws nD s2 hD pm pw => ?_⟩⟩
        · rw [pr.keys]
          exact hk_nodup sub
        · obtain ⟨p, hp, h⟩ := pr.mem hy
          rw [h.key]
          obtain ⟨t, k, u, rfl, h1, h2, _⟩ := h
          exact ⟨t, k, u, p.1, rfl, s2 _ _ h1, SqT.of (s2 _ _ h2), fun r nr => ⟨Same.new nr, r, k, rfl, upd_same, SqT.of (Same.new nr _ _ (s2 _ _ h2))⟩⟩
        · obtain ⟨qs, e, h'⟩ := pr.perm pm
          refine q D ws qs H2 ?_ ((smF.trans sm').trans s2) hD (h'.mono fun t xs e => s2 _ _ e) ⟨e, h'.fall pw⟩
          exact (smF.trans sm').free nD
end

/-! the program's inverse by a prime -/
theorem cop_of {p f : Int} (h2 : 2 ≤ p) (h9 : p ≤ 9973) (hp : isPb p = true) (f0 : 0 < f) (f1 : f < p) : Int.gcd p f = 1 := by
  have hg0 : 0 < Int.gcd p f := Int.gcd_pos_of_ne_zero_left f (by omega)
  have hgp : ((Int.gcd p f : Nat) : Int) ∣ p := Int.gcd_dvd_left ..
  have hgf : ((Int.gcd p f : Nat) : Int) ∣ f := Int.gcd_dvd_right ..
  generalize Int.gcd p f = g at *
  have gle : (g : Int) ≤ f := Int.le_of_dvd f0 hgf
  obtain ⟨h, e⟩ := hgp
  by_cases g1 : g = 1
  · exact g1
  exfalso
  have g2 : 2 ≤ (g : Int) := by omega
  have hh : 2 ≤ h := by
    rcases Int.lt_or_le h 2 with z | z
    · have := Int.mul_le_mul_of_nonneg_left (show h ≤ 1 by omega) (show 0 ≤ (g : Int) by omega)
      omega
    · exact z
  have key : ∀ d k : Int, 2 ≤ d → d ≤ k → p = d * k → False := fun d k d2 dk ep => by
    have hdd : d * d ≤ p := by rw [ep]; exact Int.mul_le_mul_of_nonneg_left dk (by omega)
    have hd100 : d < 100 := Int.not_le.mp fun z => by
      have := Int.mul_le_mul z z (by omega) (by omega)
      omega
    have h0 := (isPb_iff.mp hp).2 d d2 hd100 hdd
    have : p % d = 0 := by rw [ep]; exact Int.mul_emod_right d k
    omega
  rcases Int.le_total (g : Int) h with z | z
  · exact key g h g2 z e
  · exact key h g hh z (by rw [e, Int.mul_comm])
theorem mod_of_dvd {a b p : Int} (h : p ∣ a - b) : a % p = b % p := Int.emod_eq_emod_iff_emod_sub_eq_zero.mpr (Int.emod_eq_zero_of_dvd h)
theorem dvd_mod (a p : Int) : p ∣ a - a % p := ⟨a / p, by rw [Int.emod_def]; omega⟩
def spInv : Sp := fun vs H Q _ => ∃ (w p : Int), vs = [.int w, .int p] ∧ 2 ≤ p ∧ p ≤ 9973 ∧ isPb p = true ∧ w % p ≠ 0 ∧ ∀ r : Int, 0 ≤ r → r < p → (r * w) % p = 1 → Q (.int r) H
section
variable {P : Program} {w : World} {K : PySem.W.Frag} {mg : Str → Option Value} {base : Heap}
theorem sc_inverse : FnScope ["whole", "prime", "rest", "share", "following", "following_share", "often", "further", "further_share"] ["whole", "prime"] (defScope s_inverse) := ⟨rfl, rfl, rfl, by decide +kernel, rfl, by decide +kernel, by decide +kernel⟩
theorem ok_inverse {f : Addr} {fd : FuncData} (F : Fun K "inverse" "inverse" s_inverse f fd) : FnOk P w K mg base CX0 1 f fd ["whole", "prime"] spInv := by
  refine F.ok sc_inverse (fun vs H Q E h => ?_) (fun cdv A outer s H vs Q E hr h => ?_)
  · obtain ⟨a, p, rfl, _⟩ := h
    rfl
  · obtain ⟨a, p, rfl, h2, h9, hp, ha, q⟩ := h
    refine ⟨_, (pss_cons (ps_set (i := 2) sc_inverse.nd rfl (Or.inl rfl) (pv 1))
(pss_cons (ps_set (i := 3) sc_inverse.nd rfl (Or.inl rfl) pe_int)
(pss_cons (ps_set (i := 4) sc_inverse.nd rfl (Or.inl rfl) (pe_op op_mod (pv 0) (pv 1)))
(pss_cons (ps_set (i := 5) sc_inverse.nd rfl (Or.inl rfl) pe_int)
(pss_cons (ps_while PassesOwn.never (pt_cmpR op_ne (pv 4) pe_int (nomark _))
(pss_cons (ps_set (i := 6) sc_inverse.nd rfl (Or.inl rfl) (pe_op op_fdivA (pv 2) (pv 4)))
(pss_cons (ps_set (i := 7) sc_inverse.nd rfl (Or.inl rfl) (pe_op op_sub (pv 2) (pe_op op_mul (pv 6) (pv 4))))
(pss_cons (ps_set (i := 8) sc_inverse.nd rfl (Or.inl rfl) (pe_op op_sub (pv 3) (pe_op op_mul (pv 6) (pv 5))))
(pss_cons (ps_set (i := 2) sc_inverse.nd rfl (Or.inl rfl) (pv 4))
(pss_cons (ps_set (i := 3) sc_inverse.nd rfl (Or.inl rfl) (pv 5))
(pss_cons (ps_set (i := 4) sc_inverse.nd rfl (Or.inl rfl) (pv 7))
(pss_one (ps_set (i := 5) sc_inverse.nd rfl (Or.inl rfl) (pv 8))))))))))
(pss_one (ps_ret (pe_op op_mod (pv 5) (pv 1))))))))), ?_⟩
    refine ⟨_, rfl, _, rfl, _, rfl, _, _, rfl, rfl, (by show (0 : Int) < p; omega), ?_⟩
    have m0 := Int.emod_nonneg a (show p ≠ 0 by omega)
    have m1 := Int.emod_lt_of_pos a (show 0 < p by omega)
    refine while_by (fun σ H' => ∃ (R S F G : Int) (u6 u7 u8 : Option V), σ = [some (.int a), some (.int p), some (.int R), some (.int S), some (.int F), some (.int G), u6, u7, u8] ∧ H' = H ∧ 1 ≤ F ∧ F < R ∧ R ≤ p ∧ Int.gcd R F = 1 ∧ p ∣ S * a - R ∧ p ∣ G * a - F)
      (fun σ _ => match σ with | [_, _, _, _, some (.int F), _, _, _, _] => F.toNat | _ => 0) ⟨p, 0, a % p, 1, none, none, none, rfl, rfl, by omega, m1, Int.le_refl p, cop_of h2 h9 hp (by omega) m1, ⟨-1, by omega⟩, by rw [Int.one_mul]; exact dvd_mod a p⟩ ?_ ?_
    · rintro σ H2 ⟨R, S, F, G, u6, u7, u8, rfl, rfl, f1, fR, Rp, hg, d1, d2⟩
      refine ⟨_, rfl, rfl, _, rfl, ?_⟩
      by_cases hF : F = 1
      · subst hF
        refine iteNS rfl ?_
        refine ⟨_, rfl, _, rfl, _, _, rfl, rfl, (by show (0 : Int) < p; omega), ?_⟩
        refine q _ (Int.emod_nonneg _ (by omega)) (Int.emod_lt_of_pos _ (by omega)) ?_
        have e1 : (G % p * a) % p = 1 % p := by
          apply mod_of_dvd
          obtain ⟨k1, e1⟩ := d2
          obtain ⟨k2, e2⟩ := dvd_mod G p
          refine ⟨k1 - k2 * a, ?_⟩
          have e3 : G % p = G - p * k2 := by omega
          rw [e3, Int.sub_mul, Int.mul_sub, Int.mul_assoc]
          omega
        rw [e1]
        exact Int.emod_eq_of_lt (by decide) (by omega)
      · rw [decide_eq_false (show ¬ V.int F = V.int 1 from fun z => hF (by injection z))]
        have eq : R.fdiv F = R / F := Int.fdiv_eq_ediv_of_nonneg _ (by omega)
        have q0 : 0 ≤ R / F := Int.ediv_nonneg (by omega) (by omega)
        have q1 : R / F ≤ R := Int.ediv_le_self F (by omega)
        refine iteT ⟨_, rfl, _, rfl, _, _, rfl, rfl, smallDiv (by omega) (by omega), ?_⟩
        refine ⟨_, rfl, _, rfl, _, rfl, _, _, rfl, rfl, .inr ⟨by omega, by omega⟩, _, _, rfl, rfl, ?_⟩
        refine ⟨_, rfl, _, rfl, _, rfl, _, _, rfl, rfl, .inl ⟨by omega, by omega⟩, _, _, rfl, rfl, ?_⟩
        rw [eq]
        have eF : R - R / F * F = R % F := by rw [Int.emod_def, Int.mul_comm]
        have r0 := Int.emod_nonneg R (show F ≠ 0 by omega)
        have r1 := Int.emod_lt_of_pos R (show 0 < F by omega)
        have rn : R % F ≠ 0 := fun z => by
          have hd : F ∣ R := Int.dvd_of_emod_eq_zero z
          have : Nat.gcd R.natAbs F.natAbs = F.natAbs := Nat.gcd_eq_right (Int.natAbs_dvd_natAbs.mpr hd)
          have hg' : Nat.gcd R.natAbs F.natAbs = 1 := hg
          omega
        refine ⟨_, rfl, _, rfl, _, rfl, _, rfl, ⟨F, G, R - R / F * F, S - R / F * G, _, _, _, rfl, rfl, by omega, by omega, by omega, ?_, d2, ?_⟩, ?_⟩
        · rw [eF, Int.emod_def, Int.gcd_comm]
          rw [Int.gcd_sub_mul_left_left]
          exact hg
        · obtain ⟨k1, e1⟩ := d1
          obtain ⟨k2, e2⟩ := d2
          refine ⟨k1 - R / F * k2, ?_⟩
          have e3 : (S - R / F * G) * a - (R - R / F * F) = (S * a - R) - R / F * (G * a - F) := by
            rw [Int.sub_mul, Int.mul_sub, Int.mul_assoc]
            omega
          rw [e3, e1, e2, Int.mul_sub, Int.mul_left_comm]
        · show (R - R / F * F).toNat < F.toNat
          omega
    · rintro σ H Q Q' hq ⟨x, hx, e1, b, hb, h⟩
      exact ⟨x, hx, e1, b, hb, hq _ _ h⟩
end

/-! the program's rests made, refused where the prime divides the bottom -/
def spROfX (CR CN : Addr) : Sp := fun vs H Q E => ∃ (x dx : Addr) (p a b : Int), vs = [.ref x, .int a, .int b] ∧ H x = some (.ins CR dx [("modulus", .int p)]) ∧ 2 ≤ p ∧ p ≤ 9973 ∧ isPb p = true ∧
  (b % p = 0 → E (.ref CN) none H) ∧ (b % p ≠ 0 → ∀ r : Int, 0 ≤ r → r < p → (r * b) % p = a % p → Q (.int r) H)
section
variable {P : Program} {w : World} {K : PySem.W.Frag} {mg : Str → Option Value} {base : Heap}
theorem sc_Rests_of : FnScope ["self", "top", "bottom"] ["self", "top", "bottom"] (defScope s_Rests_of) := ⟨rfl, rfl, rfl, by decide +kernel, rfl, by decide +kernel, by decide +kernel⟩
theorem ok_rofx {f CR C_NoNumber : Addr} {fd : FuncData} (F : FunD K "of" "Rests.of" s_Rests_of f fd) (cl : Cls K CR) (nM : NoAttr K CR "modulus") (Ginverse : FnB P w K mg base 1 "inverse" spInv) (ANoNumber : mg "NoNumber" = some (.ref C_NoNumber)) (xc : XCl K C_NoNumber) :
    FnOk P w K mg base (CXE P w) 2 f fd ["self", "top", "bottom"] (spROfX CR C_NoNumber) := by
  refine F.okX sc_Rests_of (fun vs H Q E h => ?_) (fun cdv A outer s H vs Q E hr h => ?_)
  · obtain ⟨x, dx, p, a, b, rfl, _⟩ := h
    rfl
  · obtain ⟨x, dx, p, a, b, rfl, hx, h2, h9, hp, qn, qy⟩ := h
    refine ⟨_, (pss_cons (ps_if (pt_cmpR op_eq (pe_op op_mod (pv 2) (pe_fld (pv 0) rfl)) pe_int (nomark _))
(pss_one (ps_raise xc.ek ANoNumber (pa_cons pe_str pa_nil)))
pss_nil)
(pss_one (ps_ret (pe_op op_mod (pe_op op_mul (pv 1) (pe_fn Ginverse (hr.mono (by first | decide | exact Nat.le_refl _)) (pa_cons (pv 2) (pa_cons (pe_fld (pv 0) rfl) pa_nil)))) (pe_fld (pv 0) rfl))))), ?_⟩
    have p0 : (0 : Int) < p := by omega
    refine ⟨_, rfl, _, rfl, x, CR, dx, _, _, rfl, hx, cl, nM, rfl, _, _, rfl, rfl, p0, rfl, _, rfl, ?_⟩
    by_cases hb : b % p = 0
    · rw [decide_eq_true (congrArg V.int hb)]
      exact iteT ⟨(by show 1 ≤ sizeLine; decide), qn hb⟩
    · rw [decide_eq_false (show ¬ V.int (b % p) = V.int 0 from fun z => hb (by injection z))]
      refine iteF ⟨_, rfl, _, rfl, _, rfl, x, CR, dx, _, _, rfl, hx, cl, nM, rfl, b, p, rfl, h2, h9, hp, hb, fun r r0 r1 hr' => ?_⟩
      refine ⟨_, _, rfl, rfl, .inr ⟨by omega, by omega⟩, _, rfl, x, CR, dx, _, _, rfl, hx, cl, nM, rfl, _, _, rfl, rfl, p0, ?_⟩
      refine qy hb _ (Int.emod_nonneg _ (by omega)) (Int.emod_lt_of_pos _ p0) ?_
      apply mod_of_dvd
      obtain ⟨k1, e1⟩ := dvd_mod (a * r) p
      obtain ⟨k2, e2⟩ := dvd_mod (r * b) p
      rw [hr'] at e2
      refine ⟨a * k2 - k1 * b, ?_⟩
      have e3 : a * r % p = a * r - p * k1 := by omega
      have e4 : r * b = 1 + p * k2 := by omega
      rw [e3, Int.sub_mul, Int.mul_assoc, e4, Int.mul_add, Int.mul_sub, Int.mul_one, Int.mul_left_comm, Int.mul_assoc]
      omega
end

theorem NumsAt.mono {CF CR x : Addr} {p : Int} {H H' : Hp} (h : NumsAt CF CR H x p) (k : ∀ o, H x = some o → H' x = some o) : NumsAt CF CR H' x p := by
  rcases h with ⟨h0, dx, e⟩ | ⟨h0, dx, e⟩
  · exact .inl ⟨h0, dx, k _ e⟩
  · exact .inr ⟨h0, dx, k _ e⟩
theorem mod_no {m : Str} (e : (m == ("modulus" : Str)) = false) (v : V) : List.lookup m [(("modulus" : Str), v)] = none := by
  simp only [List.lookup, e]

theorem of_go {CF CR C_NoNumber x : Addr} {P a : Int} {vs dvs : List V} {H : Hp} {σ : L2.St} {R : VK} {ta : TE} {t : TA} (hP : PrimeOk P) (hN : NumsAt CF CR H x P) (hv : vs ++ dvs = [.int a, .int 1]) (ha : ∀ Z : VK, Z (.ref x) H → ta σ H Z) (ht : ∀ Z : List V → Hp → Prop, Z vs H → t σ H Z)
    (hR : ∀ r H', Same H H' → At P H' r (if P = 0 then (a, 1) else (a % P, 1)) → R r H') :
    tOrE (tMeth CF "of" (spFOfX C_NoNumber) dvs E0 ta t) (tMeth CR "of" (spROfX CR C_NoNumber) dvs E0 ta t) σ H R := by
  rcases hN with ⟨h0, dx, e⟩ | ⟨h0, dx, e⟩
  · rw [if_pos h0] at hR
    refine .inl (ha _ ⟨x, dx, [], rfl, e, rfl, ht _ ⟨.ref x, a, 1, by rw [hv], fun z => absurd z (by decide), fun _ => ⟨by decide +kernel, fun r nr => ?_⟩⟩⟩)
    rw [(nrm_self a 1 (by decide)).mpr (Int.gcd_one_right ..)]
    exact hR _ _ (Same.new nr) (.inl ⟨h0, r, rfl, upd_same⟩)
  · rw [if_neg h0] at hR
    rcases hP with z | ⟨h2, h9, hp⟩
    · exact absurd z h0
    have e1 : (1 : Int) % P = 1 := Int.emod_eq_of_lt (by decide) (by omega)
    refine .inr (ha _ ⟨x, dx, _, rfl, e, mod_no (by decide +kernel) _, ht _ ⟨x, dx, P, a, 1, by rw [hv], e, h2, h9, hp, (fun z => absurd (e1.symm.trans z) (by decide)), fun _ r r0 r1 hr => ?_⟩⟩)
    rw [Int.mul_one, Int.emod_eq_of_lt r0 r1] at hr
    rw [hr]
    exact hR _ _ (Same.refl H) (.inr ⟨h0, rfl, rfl⟩)

/-! rings: what they tell -/
def RingAt (CG : Addr) (H : Hp) (g x : Addr) (L : Int) : Prop := ∃ dx, H g = some (.ins CG dx [("kind", .ref x), ("width", .int L)])
def spRNum (CG : Addr) : Sp := fun vs H Q _ => ∃ (g x : Addr) (L : Int), vs = [.ref g] ∧ RingAt CG H g x L ∧ Q (.ref x) H
def spRLet (CG : Addr) : Sp := fun vs H Q _ => ∃ (g x : Addr) (L : Int), vs = [.ref g] ∧ RingAt CG H g x L ∧ Q (.int L) H
section
variable {P : Program} {w : World} {K : PySem.W.Frag} {mg : Str → Option Value} {base : Heap}
theorem sc_Ring_numbers : FnScope ["self"] ["self"] (defScope s_Ring_numbers) := ⟨rfl, rfl, rfl, by decide +kernel, rfl, by decide +kernel, by decide +kernel⟩
theorem ok_rnum {f CG : Addr} {fd : FuncData} (F : Fun K "numbers" "Ring.numbers" s_Ring_numbers f fd) (cl : Cls K CG) (nA : NoAttr K CG "kind") : FnOk P w K mg base CX0 1 f fd ["self"] (spRNum CG) := by
  refine F.ok sc_Ring_numbers (fun vs H Q E h => ?_) (fun cdv A outer s H vs Q E hr h => ?_)
  · obtain ⟨g, x, L, rfl, _⟩ := h
    rfl
  · obtain ⟨g, x, L, rfl, ⟨dx, hg⟩, q⟩ := h
    refine ⟨_, (pss_one (ps_ret (pe_fld (pv 0) rfl))), ?_⟩
    exact ⟨_, rfl, g, CG, dx, _, _, rfl, hg, cl, nA, rfl, q⟩
theorem sc_Ring_letters : FnScope ["self"] ["self"] (defScope s_Ring_letters) := ⟨rfl, rfl, rfl, by decide +kernel, rfl, by decide +kernel, by decide +kernel⟩
theorem ok_rlet {f CG : Addr} {fd : FuncData} (F : Fun K "letters" "Ring.letters" s_Ring_letters f fd) (cl : Cls K CG) (nA : NoAttr K CG "width") : FnOk P w K mg base CX0 1 f fd ["self"] (spRLet CG) := by
  refine F.ok sc_Ring_letters (fun vs H Q E h => ?_) (fun cdv A outer s H vs Q E hr h => ?_)
  · obtain ⟨g, x, L, rfl, _⟩ := h
    rfl
  · obtain ⟨g, x, L, rfl, ⟨dx, hg⟩, q⟩ := h
    refine ⟨_, (pss_one (ps_ret (pe_fld (pv 0) rfl))), ?_⟩
    exact ⟨_, rfl, g, CG, dx, _, _, rfl, hg, cl, nA, rfl, q⟩
end

def spExp : Sp := fun vs H Q _ => ∃ (p : Addr) (L M a b : Int) (k : Nat), vs = [.int L, .int M, .ref p] ∧ 1 ≤ L ∧ L ≤ 4 ∧ 0 ≤ M ∧ M ≤ 1000 ∧ H p = some (.lst [.int a, .int b]) ∧ BagOk a b k ∧ k ≤ 100000 ∧
  ∀ (t : Addr) (es : List Int) (a' b' : Int) (H' : Hp), (es.length : Int) = L → (∀ e ∈ es, 0 ≤ e) → es.sum ≤ M → H' t = some (.tup (es.map V.int)) → H' p = some (.lst [.int a', .int b']) → BagOk a' b' (k + 6) → (∀ c o, H c = some o → c ≠ p → H' c = some o) → Q (.ref t) H'
theorem cut_lo (xs : List V) (n : Nat) (h : n ≤ xs.length) : cutV xs (some (n : Int)) none = xs.drop n := by
  unfold cutV
  rw [HT.sIx_nat, HT.sIx_none, Nat.min_eq_left h]
  exact List.take_of_length_le (by rw [List.length_drop]; exact Nat.le_refl _)
theorem cut_hi (xs : List V) (n : Nat) (h : n ≤ xs.length) : cutV xs none (some (n : Int)) = xs.take n := by
  unfold cutV
  rw [HT.sIx_nat, HT.sIx_none, Nat.min_eq_left h]
  simp
section
variable {P : Program} {w : World} {K : PySem.W.Frag} {mg : Str → Option Value} {base : Heap}
theorem sc__law_exponents : FnScope ["_law_letters", "_law_most", "_law_bag_here", "_law_found", "_law_left", "_law_letter", "_law_here", "_law_at"] ["_law_letters", "_law_most", "_law_bag_here"] (defScope s__law_exponents) := ⟨rfl, rfl, rfl, by decide +kernel, rfl, by decide +kernel, by decide +kernel⟩
theorem ok_exp {f : Addr} {fd : FuncData} (F : Fun K "_law_exponents" "_law_exponents" s__law_exponents f fd) (T : Blt mg) (G_law_take : FnB P w K mg base 1 "_law_take" spTake) : FnOk P w K mg base CX0 2 f fd ["_law_letters", "_law_most", "_law_bag_here"] spExp := by
  refine F.ok sc__law_exponents (fun vs H Q E h => ?_) (fun cdv A outer s H vs Q E hr h => ?_)
  · obtain ⟨p, L, M, a, b, k, rfl, _⟩ := h
    rfl
  · obtain ⟨p, L, M, a, b, k, rfl, hL1, hL4, hM0, hM1, hp, hb, hk, q⟩ := h
    refine ⟨_, (pss_cons (ps_set (i := 3) sc__law_exponents.nd rfl (Or.inl rfl) (pe_lst pa_nil))
(pss_cons (ps_set (i := 4) sc__law_exponents.nd rfl (Or.inl rfl) (pe_fn G_law_take (hr.mono (by first | decide | exact Nat.le_refl _)) (pa_cons (pv 2) (pa_cons (pe_op op_add (pv 1) pe_int) pa_nil))))
(pss_cons (ps_for PassesOwn.never rfl (pi_range1 rfl T.range (pa_cons (pv 0) pa_nil)) (pg_name (i := 5) sc__law_exponents.nd rfl (Or.inl rfl))
(pss_cons (ps_set (i := 6) sc__law_exponents.nd rfl (Or.inl rfl) (pe_fn G_law_take (hr.mono (by first | decide | exact Nat.le_refl _)) (pa_cons (pv 2) (pa_cons (pe_op op_add (pv 4) pe_int) pa_nil))))
(pss_cons (ps_expr (pe_bm PySem.F.plainAttrs_list PySem.F.slot_list_append PySem.F.type_list_append mt_append (pv 3) (pa_cons (pv 6) pa_nil)))
(pss_one (ps_set (i := 4) sc__law_exponents.nd rfl (Or.inl rfl) (pe_op op_sub (pv 4) (pv 6)))))))
(pss_cons (ps_set (i := 7) sc__law_exponents.nd rfl (Or.inl rfl) (pe_fn G_law_take (hr.mono (by first | decide | exact Nat.le_refl _)) (pa_cons (pv 2) (pa_cons (pv 0) pa_nil))))
(pss_one (ps_ret (kpl_tuple K T (pe_op op_cat (pe_slice (ksl_list K rfl) (pv 3) (po_some (pv 7)) po_none) (pe_slice (ksl_list K rfl) (pv 3) po_none (po_some (pv 7))))))))))), ?_⟩
    refine ⟨Nat.zero_le _, fun l hl => ?_⟩
    have pl : p ≠ l := ne_of_none hp hl
    refine ⟨_, rfl, _, rfl, _, _, rfl, rfl, p, a, b, _, k, rfl, (by rw [upd_ne pl]; exact hp), hb, by omega, by omega, smallAbs (by omega) (by omega), fun r a1 b1 r0 r1 hb1 => ?_⟩
    refine ⟨_, rfl, L, rfl, by omega, by omega, for_range (n := L.toNat) (fun i σ H' => ∃ (es : List Int) (left a b : Int) (x5 x6 : Option V), σ = [some (.int L), some (.int M), some (.ref p), some (.ref l), some (.int left), x5, x6, none] ∧ es.length = i ∧ (∀ e ∈ es, 0 ≤ e) ∧ 0 ≤ left ∧ es.sum + left ≤ M ∧ (∀ e ∈ es, e ≤ M) ∧
        H' l = some (.lst (es.map V.int)) ∧ H' p = some (.lst [.int a, .int b]) ∧ BagOk a b (k + 1 + i) ∧ (∀ c o, H c = some o → c ≠ p → H' c = some o)) ?_ ?_ ?_⟩
    · refine ⟨[], r, a1, b1, none, none, rfl, rfl, fun e he => absurd he (by simp), r0, (by simp; omega), fun e he => absurd he (by simp), (by rw [upd_ne pl.symm, upd_same]; rfl), upd_same, hb1, fun c o e hc => ?_⟩
      rw [upd_ne hc, upd_ne (ne_of_none e hl)]
      exact e
    · rintro i σ H2 hi ⟨es, left, a2, b2, x5, x6, rfl, hlen, hnn, hl0, hsum, hle, hl2, hp2, hb2, kp⟩
      have hnsum : 0 ≤ es.sum := by
        clear hsum hle hlen hl2
        induction es with
        | nil => simp
        | cons e r ih =>
          rw [List.sum_cons]
          have := hnn e (by simp)
          have := ih (fun x hx => hnn x (by simp [hx]))
          omega
      refine ⟨_, rfl, _, rfl, _, _, rfl, rfl, p, a2, b2, _, k + 1 + i, rfl, hp2, hb2, by omega, by omega, smallAbs (by omega) (by omega), fun r3 a3 b3 r30 r31 hb3 => ?_⟩
      have hl3 : (upd H2 p (.lst [.int a3, .int b3])) l = some (.lst (es.map V.int)) := by rw [upd_ne pl.symm]; exact hl2
      refine ⟨_, rfl, .inl ⟨rfl, _, SqL.of hl3⟩, _, rfl, l, _, _, rfl, rfl, hl3, small1000 (by rw [List.length_map]; omega), ?_⟩
      refine ⟨_, rfl, _, rfl, _, _, rfl, rfl, ?_⟩
      refine ⟨es ++ [r3], left - r3, a3, b3, _, _, rfl, by rw [List.length_append, List.length_singleton, hlen], fun e he => ?_, by omega, by rw [List.sum_append]; simp; omega, fun e he => ?_, by rw [upd_same, List.map_append]; rfl, by rw [upd_ne pl, upd_same], by rw [show k + 1 + (i + 1) = k + 1 + i + 1 by omega]; exact hb3, fun c o e hc => ?_⟩
      · rcases List.mem_append.mp he with z | z
        · exact hnn e z
        · rw [List.mem_singleton.mp z]; exact r30
      · rcases List.mem_append.mp he with z | z
        · exact hle e z
        · rw [List.mem_singleton.mp z]; omega
      · rw [upd_ne (ne_of_none e hl), upd_ne hc]
        exact kp c o e hc
    · rintro σ H2 ⟨es, left, a2, b2, x5, x6, rfl, hlen, hnn, hl0, hsum, hle, hl2, hp2, hb2, kp⟩
      have hln : es.length ≤ 4 := by omega
      refine ⟨_, rfl, _, rfl, p, a2, b2, _, k + 1 + L.toNat, rfl, hp2, hb2, by omega, by omega, smallAbs (by omega) (by omega), fun r3 a3 b3 r30 r31 hb3 => ?_⟩
      obtain ⟨n, rfl⟩ := Int.eq_ofNat_of_zero_le r30
      have hl3 : (upd H2 p (.lst [.int a3, .int b3])) l = some (.lst (es.map V.int)) := by rw [upd_ne pl.symm]; exact hl2
      have hn : n ≤ (es.map V.int).length := by rw [List.length_map]; omega
      have h4 : (4 : Nat) ≤ sizeLine := by decide
      refine ⟨_, rfl, _, rfl, _, rfl, l, _, rfl, SqL.of hl3, fun l1 n1 => ?_⟩
      have hl4 : (upd (upd H2 p (.lst [.int a3, .int b3])) l1 (.lst (cutV (es.map V.int) (some (n : Int)) none))) l = some (.lst (es.map V.int)) := by rw [upd_ne (ne_of_none hl3 n1)]; exact hl3
      refine ⟨_, rfl, _, rfl, _, rfl, l, _, rfl, SqL.of hl4, fun l2 n2 => ?_⟩
      have l12 : l1 ≠ l2 := fun z => by rw [← z, upd_same] at n2; cases n2
      refine ⟨l1, l2, _, _, rfl, rfl, by rw [upd_ne l12, upd_same], upd_same, ?_, fun l3 n3 => ?_⟩
      · rw [cut_lo _ _ hn, cut_hi _ _ hn, List.length_drop, List.length_take, List.length_map]
        omega
      · rw [cut_hi _ _ hn] at n3 ⊢
        rw [cut_lo _ _ hn] at n2 n3 ⊢
        refine ⟨l3, _, rfl, SqL.of upd_same, fun t ht => ?_⟩
        have sm := (Same.new (o := .lst ((es.map V.int).drop n)) n1).trans (Same.new (o := .lst ((es.map V.int).take n)) n2)
        have sm2 := (sm.trans (Same.new (o := .lst ((es.map V.int).drop n ++ (es.map V.int).take n)) n3)).trans (Same.new (o := .tup ((es.map V.int).drop n ++ (es.map V.int).take n)) ht)
        refine q t (es.drop n ++ es.take n) a3 b3 _ ?_ (fun e he => ?_) ?_ (by rw [upd_same, List.map_append, List.map_drop, List.map_take]) (sm2 p _ upd_same) (hb3.mono (by omega)) (fun c o e hc => sm2 c o (by rw [upd_ne hc]; exact kp c o e hc))
        · rw [List.length_append, List.length_drop, List.length_take]
          rw [List.length_map] at hn
          omega
        · rcases List.mem_append.mp he with z | z
          · exact hnn e (List.mem_of_mem_drop z)
          · exact hnn e (List.mem_of_mem_take z)
        · have e1 : (es.drop n ++ es.take n).sum = es.sum := by
            rw [List.sum_append, Int.add_comm, ← List.sum_append, List.take_append_drop]
          rw [e1]
          omega
end

/-! drawn parts -/
def PsOk (P L : Int) (ps : List Mono) : Prop := ∀ q ∈ ps, OkN P q.2 ∧ Sz 103 q.2 ∧ (q.1.length : Int) = L ∧ ∀ e ∈ q.1, 0 ≤ e
def spParts : Sp := fun vs H Q _ => ∃ (p : Addr) (P L M N a b : Int) (k : Nat), vs = [.int P, .int L, .int M, .int N, .ref p] ∧ PrimeOk P ∧ 1 ≤ L ∧ L ≤ 4 ∧ 0 ≤ M ∧ M ≤ 1000 ∧ 0 ≤ N ∧ N ≤ 12 ∧ H p = some (.lst [.int a, .int b]) ∧ BagOk a b k ∧ k ≤ 1000 ∧
  ∀ (l : Addr) (ts : List V) (ps : List Mono) (a' b' : Int) (H' : Hp), H l = none → H' l = some (.lst ts) → PartsR P H' ts ps → (ps.length : Int) ≤ N → PsOk P L ps → H' p = some (.lst [.int a', .int b']) → BagOk a' b' (k + 205) → (∀ c o, H c = some o → c ≠ p → H' c = some o) → Q (.ref l) H'
section
variable {P : Program} {w : World} {K : PySem.W.Frag} {mg : Str → Option Value} {base : Heap}
theorem sc__law_parts : FnScope ["_law_prime_here", "_law_letters", "_law_most", "_law_many", "_law_bag_here", "_law_found", "_law_k", "_law_product"] ["_law_prime_here", "_law_letters", "_law_most", "_law_many", "_law_bag_here"] (defScope s__law_parts) := ⟨rfl, rfl, rfl, by decide +kernel, rfl, by decide +kernel, by decide +kernel⟩
theorem ok_parts {f : Addr} {fd : FuncData} (F : Fun K "_law_parts" "_law_parts" s__law_parts f fd) (T : Blt mg) (G_law_take : FnB P w K mg base 1 "_law_take" spTake) (G_law_exponents : FnB P w K mg base 2 "_law_exponents" spExp) (G_law_number : FnB P w K mg base 4 "_law_number" spNumber) :
    FnOk P w K mg base CX0 5 f fd ["_law_prime_here", "_law_letters", "_law_most", "_law_many", "_law_bag_here"] spParts := by
  refine F.ok sc__law_parts (fun vs H Q E h => ?_) (fun cdv A outer s H vs Q E hr h => ?_)
  · obtain ⟨p, P, L, M, N, a, b, k, rfl, _⟩ := h
    rfl
  · obtain ⟨p, P, L, M, N, a, b, k, rfl, hP, hL1, hL4, hM0, hM1, hN0, hN1, hp, hb, hk, q⟩ := h
    refine ⟨_, (pss_cons (ps_set (i := 5) sc__law_parts.nd rfl (Or.inl rfl) (pe_lst pa_nil))
(pss_cons (ps_for PassesOwn.never rfl (pi_range1 rfl T.range (pa_cons (pe_fn G_law_take (hr.mono (by first | decide | exact Nat.le_refl _)) (pa_cons (pv 4) (pa_cons (pe_op op_add (pv 3) pe_int) pa_nil))) pa_nil)) (pg_name (i := 6) sc__law_parts.nd rfl (Or.inl rfl))
(pss_cons (ps_set (i := 7) sc__law_parts.nd rfl (Or.inl rfl) (pe_fn G_law_exponents (hr.mono (by first | decide | exact Nat.le_refl _)) (pa_cons (pv 1) (pa_cons (pv 2) (pa_cons (pv 4) pa_nil)))))
(pss_cons (ps_if (PW.pt (pw_and (pt_cmpR op_gt (pv 6) pe_int (nomark _)) (pw_and1 (pt_cmpR op_eq (pe_fn G_law_take (hr.mono (by first | decide | exact Nat.le_refl _)) (pa_cons (pv 4) (pa_cons pe_int pa_nil))) pe_int (nomark _)))))
(pss_one (ps_set (i := 7) sc__law_parts.nd rfl (Or.inl rfl) (pe_ix (kix_tup K rfl) (pe_ix (kix_list K rfl) (pv 5) (pe_fn G_law_take (hr.mono (by first | decide | exact Nat.le_refl _)) (pa_cons (pv 4) (pa_cons (pv 6) pa_nil))) (fun _ _ => rfl)) pe_int (fun _ _ => rfl))))
pss_nil)
(pss_one (ps_expr (pe_bm PySem.F.plainAttrs_list PySem.F.slot_list_append PySem.F.type_list_append mt_append (pv 5) (pa_cons (pe_tup (pa_cons (pv 7) (pa_cons (pe_fn G_law_number (hr.mono (by first | decide | exact Nat.le_refl _)) (pa_cons (pv 0) (pa_cons (pv 4) (pa_cons (pe_cmpR op_eq (pe_fn G_law_take (hr.mono (by first | decide | exact Nat.le_refl _)) (pa_cons (pv 4) (pa_cons pe_int pa_nil))) pe_int (nomark _)) pa_nil)))) pa_nil))) pa_nil)))))))
(pss_one (ps_ret (pv 5))))), ?_⟩
    refine ⟨Nat.zero_le _, fun l hl => ?_⟩
    have pl : p ≠ l := ne_of_none hp hl
    refine ⟨_, rfl, _, rfl, _, _, rfl, rfl, p, a, b, _, k, rfl, (by rw [upd_ne pl]; exact hp), hb, by omega, by omega, smallAbs (by omega) (by omega), fun r a1 b1 r0 r1 hb1 => ?_⟩
    refine ⟨r, rfl, by omega, by omega, for_range (n := r.toNat) (fun i σ H' => ∃ (ts : List V) (ps : List Mono) (a b : Int) (x6 x7 : Option V), σ = [some (.int P), some (.int L), some (.int M), some (.int N), some (.ref p), some (.ref l), x6, x7] ∧
      H' l = some (.lst ts) ∧ PartsR P H' ts ps ∧ ps.length = i ∧ PsOk P L ps ∧ H' p = some (.lst [.int a, .int b]) ∧ BagOk a b (k + 1 + 17 * i) ∧ (∀ c o, H c = some o → c ≠ p → H' c = some o)) ?_ ?_ ?_⟩
    · refine ⟨[], [], a1, b1, none, none, rfl, (by rw [upd_ne pl.symm, upd_same]), .nil, rfl, fun q hq => absurd hq (by simp), upd_same, hb1, fun c o e hc => ?_⟩
      rw [upd_ne hc, upd_ne (ne_of_none e hl)]
      exact e
    · rintro i σ H2 hi ⟨ts, ps, a2, b2, x6, x7, rfl, hl2, pr, hlen, hpok, hp2, hb2, kp⟩
      have hi12 : i < 13 := by omega
      refine ⟨_, rfl, _, rfl, _, rfl, p, L, M, a2, b2, _, rfl, hL1, hL4, hM0, hM1, hp2, hb2, by omega, fun t es a3 b3 H3 hlen3 hnn hsum ht hp3 hb3 kp3 => ?_⟩
      have lp : l ≠ p := pl.symm
      have np : ∀ t xs, H2 t = some (.tup xs) → t ≠ p := fun t xs e => ne_of e hp2 (by intro z; cases z)
      have hl3 : H3 l = some (.lst ts) := kp3 l _ hl2 lp
      have pr3 : PartsR P H3 ts ps := pr.mono fun t xs e => kp3 t _ e (np t xs e)
      have kp3' : ∀ c o, H c = some o → c ≠ p → H3 c = some o := fun c o e hc => kp3 c o (kp c o e hc) hc
      dsimp only
      refine set_cut (t := tIfS _ _ _) (fun σ' H' => ∃ (c : Addr) (es : List Int) (a b : Int), σ' = [some (.int P), some (.int L), some (.int M), some (.int N), some (.ref p), some (.ref l), some (.int (0 + (i : Int))), some (.ref c)] ∧ H' c = some (.tup (es.map V.int)) ∧ (es.length : Int) = L ∧ (∀ e ∈ es, 0 ≤ e) ∧
        H' l = some (.lst ts) ∧ PartsR P H' ts ps ∧ H' p = some (.lst [.int a, .int b]) ∧ BagOk a b (k + 1 + 17 * i + 8) ∧ (∀ c o, H c = some o → c ≠ p → H' c = some o)) (fun R hR => ?_) ?_
      · refine ⟨_, rfl, _, _, rfl, rfl, _, rfl, ite2 (fun h => ?_) (fun h => ?_)⟩
        · have hi0 : 0 < i := by have := of_decide_eq_true h; omega
          refine ⟨_, rfl, p, a3, b3, 3, _, rfl, hp3, hb3, by omega, by decide, smallAbs (by decide) (by decide), fun r4 a4 b4 r40 r41 hb4 => ?_⟩
          have k4 : ∀ c o, H3 c = some o → c ≠ p → (upd H3 p (.lst [.int a4, .int b4])) c = some o := fun c o e hc => by rw [upd_ne hc]; exact e
          have np3 : ∀ t xs, H3 t = some (.tup xs) → t ≠ p := fun t xs e => ne_of e hp3 (by intro z; cases z)
          refine ⟨rfl, _, rfl, ite2 (fun h4 => ?_) (fun h4 => ?_)⟩
          · refine ⟨_, rfl, _, rfl, _, rfl, p, a4, b4, _, _, rfl, upd_same, hb4, by omega, by omega, smallAbs (by omega) (by omega), fun r5 a5 b5 r50 r51 hb5 => ?_⟩
            rw [upd_upd]
            have k5 : ∀ c o, H3 c = some o → c ≠ p → (upd H3 p (.lst [.int a5, .int b5])) c = some o := fun c o e hc => by rw [upd_ne hc]; exact e
            have pr5 : PartsR P (upd H3 p (.lst [.int a5, .int b5])) ts ps := pr3.mono fun t xs e => k5 t _ e (np3 t xs e)
            obtain ⟨n, rfl⟩ := Int.eq_ofNat_of_zero_le r50
            have lts : ts.length = ps.length := Paired.length pr5
            have hnl : n < ts.length := by omega
            obtain ⟨q', eq', t', c', u', ev, h1, h2, h3⟩ := PartsR.at_ pr5 (List.getElem?_eq_getElem hnl)
            refine ⟨l, _, _, _, rfl, rfl, SqL.of (k5 l _ hl3 lp), atI_nat (by rw [List.getElem?_eq_getElem hnl, ev]), t', _, _, _, rfl, rfl, SqT.of h1, rfl, ?_⟩
            obtain ⟨_, _, l1, l2⟩ := hpok q' (List.mem_of_getElem? eq')
            exact hR _ _ ⟨c', q'.1, a5, b5, rfl, h2, l1, l2, k5 l _ hl3 lp, pr5, upd_same, hb5.mono (by omega), fun c o e hc => k5 c o (kp3' c o e hc) hc⟩
          · exact hR _ _ ⟨t, es, a4, b4, rfl, k4 t _ ht (np3 t _ ht), hlen3, hnn, k4 l _ hl3 lp, pr3.mono fun t xs e => k4 t _ e (np3 t xs e), upd_same, hb4.mono (by omega), fun c o e hc => k4 c o (kp3' c o e hc) hc⟩
        · exact hR _ _ ⟨t, es, a3, b3, rfl, ht, hlen3, hnn, hl3, pr3, hp3, hb3.mono (by omega), kp3'⟩
      · rintro σ' H4 ⟨c, es', a4, b4, rfl, hc, hle, hnn', hl4, pr4, hp4, hb4, kp4⟩
        have lts : ts.length = ps.length := Paired.length pr4
        refine ⟨_, rfl, .inl ⟨rfl, _, SqL.of hl4⟩, _, rfl, _, rfl, _, rfl, _, rfl, p, a4, b4, 6, _, rfl, hp4, hb4, by omega, by decide, smallAbs (by decide) (by decide), fun r5 a5 b5 r50 r51 hb5 => ?_⟩
        refine ⟨rfl, p, P, a5, b5, _, _, rfl, hP, upd_same, hb5, by omega, fun v a6 b6 H6 hv hp6 hb6 kp6 => ?_⟩
        have k6 : ∀ c o, H4 c = some o → c ≠ p → H6 c = some o := fun c o e hc => kp6 c o (by rw [upd_ne hc]; exact e) hc
        have np4 : ∀ t xs, H4 t = some (.tup xs) → t ≠ p := fun t xs e => ne_of e hp4 (by intro z; cases z)
        refine ⟨(by show 2 ≤ sizeLine; decide), fun t7 n7 => ?_⟩
        have s7 := Same.new (o := .tup [.ref c, v]) n7
        have hl7 := s7 _ _ (k6 l _ hl4 lp)
        refine ⟨l, _, _, rfl, rfl, hl7, by rw [sizeLine_eq]; omega, ?_⟩
        obtain ⟨x, ax, ox, sx⟩ := hv.at_ hP
        have k8 : ∀ d o, (upd H6 t7 (.tup [.ref c, v])) d = some o → d ≠ l → upd (upd H6 t7 (.tup [.ref c, v])) l (.lst (ts ++ [.ref t7])) d = some o := fun d o e hd => by rw [upd_ne hd]; exact e
        have tk8 : ∀ d xs, (upd H6 t7 (.tup [.ref c, v])) d = some (.tup xs) → upd (upd H6 t7 (.tup [.ref c, v])) l (.lst (ts ++ [.ref t7])) d = some (.tup xs) := fun d xs e => k8 d _ e (ne_of e hl7 (by intro z; cases z))
        have hc6 := k6 c _ hc (np4 c _ hc)
        refine ⟨ts ++ [.ref t7], ps ++ [(es', x)], a6, b6, _, _, rfl, upd_same, ?_, by rw [List.length_append, hlen]; rfl, fun q hq => ?_, k8 p _ (s7 _ _ hp6) pl, hb6.mono (by omega), fun d o e hd => k8 d o (s7 _ _ (k6 d o (kp4 d o e hd) hd)) (ne_of_none e hl)⟩
        · exact (PartsR.snoc (p := (es', x)) ⟨t7, c, v, rfl, upd_same, s7 _ _ hc6, ax.same s7⟩ ((pr4.mono fun t xs e => k6 t _ e (np4 t xs e)).mono fun t xs e => s7 _ _ e)).mono tk8
        · rcases List.mem_append.mp hq with z | z
          · exact hpok q z
          · rw [List.mem_singleton.mp z]
            exact ⟨ox, sx, hle, hnn'⟩
    · rintro σ H2 ⟨ts, ps, a2, b2, x6, x7, rfl, hl2, pr, hlen, hpok, hp2, hb2, kp⟩
      exact ⟨_, rfl, q l ts ps a2 b2 H2 hl hl2 pr (by omega) hpok hp2 (hb2.mono (by omega)) kp⟩
end

theorem add_zero_l {P : Int} {x : Int × Int} (h : OkN P x) : addN P (0, 1) x = x := by
  unfold addN
  rcases h with ⟨h0, hd, hg⟩ | ⟨h0, a, b, c⟩
  · rw [if_pos h0]
    show nrm (0 * x.2 + x.1 * 1) (1 * x.2) = x
    rw [Int.zero_mul, Int.zero_add, Int.mul_one, Int.one_mul]
    exact (nrm_self x.1 x.2 hd).mpr hg
  · rw [if_neg h0]
    show ((0 + x.1) % P, 1) = x
    rw [Int.zero_add, Int.emod_eq_of_lt a b]
    exact Prod.ext rfl c.symm

/-! sums as data, and what is like a sum -/
def dP (P : Int) (p : Mono) : PyData := .tuple [dInts p.1, dN P p.2]
def dS (P : Int) (out : List Mono) : PyData := .list (out.map (dP P))
theorem dP_ok (P : Int) (p : Mono) : (dP P p).canLay0 = true ∧ (dP P p).depth ≤ 2 := by
  have h1 := shaped_ints p.1
  have h2 := shaped_dN P p.2
  have d1 : (dInts p.1).depth ≤ 1 := by simp [dInts, PyData.depth, PySem.W.ke_depthAll]
  have d2 : (dN P p.2).depth ≤ 1 := by
    unfold dN
    split
    · simp [dInts, PyData.depth, PyData.depthAll]
    · simp [PyData.depth]
  refine ⟨?_, ?_⟩
  · simp only [dP, PyData.canLay0, PyData.canLayAll0, SeqAt.canLay_of_shaped h1, SeqAt.canLay_of_shaped h2, Bool.and_true]
  · simp only [dP, PyData.depth, PyData.depthAll]
    omega
theorem dS_all (P : Int) : ∀ out : List Mono, PyData.canLayAll0 (out.map (dP P)) = true ∧ PyData.depthAll (out.map (dP P)) ≤ 2
  | [] => ⟨rfl, by simp [PyData.depthAll]⟩
  | p :: r => by
    obtain ⟨a, b⟩ := dP_ok P p
    obtain ⟨c, d⟩ := dS_all P r
    refine ⟨by simp only [List.map_cons, PyData.canLayAll0, a, c, Bool.and_true], ?_⟩
    simp only [List.map_cons, PyData.depthAll]
    omega
theorem shaped_dS (P : Int) (out : List Mono) : SeqAt.shaped (dS P out) = true := by
  obtain ⟨c, d⟩ := dS_all P out
  unfold SeqAt.shaped dS
  rw [Bool.and_eq_true]
  refine ⟨by simp only [PyData.canLay0, c], decide_eq_true ?_⟩
  simp only [PyData.depth]
  omega
theorem drs_parts {K : PySem.W.Frag} {P : Int} {H : Hp} : ∀ {ts : List V} {ps : List Mono}, PartsR P H ts ps → DRs K H (ps.map (dP P)) ts
  | _, _, .nil => .nil
  | _, _, .cons ⟨t, k, u, e, h1, h2, h3⟩ r => by
    rw [e]
    exact .cons (.tup (SqT.of h1) (.cons (dr_ints (SqT.of h2)) (.cons (dr_at h3) .nil))) (drs_parts r)
theorem dr_dS {K : PySem.W.Frag} {P : Int} {H : Hp} {l : Addr} {ts : List V} {ps : List Mono} (hl : H l = some (.lst ts)) (h : PartsR P H ts ps) : DR K H (dS P ps) (.ref l) := .lst (SqL.of hl) (drs_parts h)

/-! what a sum of drawn parts is like -/
theorem acc_sz {P : Int} (hP : PrimeOk P) {ps : List Mono} (h : ∀ p ∈ ps, OkN P p.2 ∧ Sz 103 p.2) : ∀ i, i ≤ ps.length → ∀ p ∈ acc P (ps.take i), Sz (104 * i + 103) p.2
  | 0, _, p, hp => by simp [acc] at hp
  | i + 1, hi, p, hp => by
    have hB := hP.b
    obtain ⟨q, eq⟩ : ∃ q, ps[i]? = some q := ⟨_, List.getElem?_eq_getElem (by omega)⟩
    have ih := acc_sz hP h i (by omega)
    have okm : ∀ q ∈ acc P (ps.take i), OkN P q.2 := acc_ok hB.1 hB.2.2 fun q hq => (h q (List.mem_of_mem_take hq)).1
    obtain ⟨oq, zq⟩ := h q (List.mem_of_getElem? eq)
    rw [acc_take eq] at hp
    rcases aput_mem hp with z | z
    · rw [z]
      have hw : OkN P ((aval (acc P (ps.take i)) q.1).getD (0, 1)) ∧ Sz (104 * i + 103) ((aval (acc P (ps.take i)) q.1).getD (0, 1)) := by
        cases e : aval (acc P (ps.take i)) q.1 with
        | none => exact ⟨okN_zero hB.1 hB.2.2, ⟨Nat.pow_pos (by decide), Nat.one_lt_two_pow (by omega)⟩⟩
        | some y => exact ⟨okm _ (aval_mem e), ih _ (aval_mem e)⟩
      exact (sz_addN hB.1 hB.2.1 hw.1 oq hw.2 zq (by omega)).1.mono (by omega)
    · exact (ih p z).mono (by omega)
theorem sumOk_drawn {P : Int} (hP : PrimeOk P) {ps : List Mono} (hl : ps.length ≤ 12) (h : ∀ p ∈ ps, OkN P p.2 ∧ Sz 103 p.2) : SumOk P ps := by
  refine ⟨fun p hp => ⟨(h p hp).1, (h p hp).2.mono (by decide)⟩, fun i p hp => ?_⟩
  by_cases hi : i ≤ ps.length
  · exact (acc_sz hP h i hi p hp).mono (by omega)
  · rw [List.take_of_length_le (by omega)] at hp
    have hp' : p ∈ acc P (ps.take ps.length) := by rw [List.take_length]; exact hp
    exact (acc_sz hP h ps.length (Nat.le_refl _) p hp').mono (by omega)
theorem acc_self {P : Int} {ps : List Mono} (hn : (ps.map (·.1)).Nodup) (h : ∀ p ∈ ps, OkN P p.2) : ∀ i, i ≤ ps.length → acc P (ps.take i) = ps.take i
  | 0, _ => by simp [acc]
  | i + 1, hi => by
    obtain ⟨q, eq⟩ : ∃ q, ps[i]? = some q := ⟨_, List.getElem?_eq_getElem (by omega)⟩
    rw [acc_take eq, acc_self hn h i (by omega)]
    have hv : aval (ps.take i) q.1 = none := by
      apply aval_none.mpr
      intro hm
      have e1 : ps.take (i + 1) = ps.take i ++ [q] := by rw [List.take_add_one, eq]; rfl
      have hs : ((ps.take (i + 1)).map (·.1)).Nodup := (List.Sublist.map _ (List.take_sublist _ _)).nodup hn
      rw [e1, List.map_append, List.nodup_append] at hs
      exact hs.2.2 q.1 hm q.1 (by simp) rfl
    unfold lstep aput
    rw [hv]
    show ps.take i ++ [(q.1, addN P (0, 1) q.2)] = ps.take (i + 1)
    rw [add_zero_l (h q (List.mem_of_getElem? eq)), List.take_add_one, eq]
    rfl
theorem acc_whole {P : Int} {ps : List Mono} (hn : (ps.map (·.1)).Nodup) (h : ∀ p ∈ ps, OkN P p.2) : acc P ps = ps := by
  have z := acc_self hn h ps.length (Nat.le_refl _)
  rw [List.take_length] at z
  exact z
theorem acc_from {P : Int} {ps : List Mono} : ∀ p ∈ acc P ps, ∃ q ∈ ps, q.1 = p.1 := by
  unfold acc
  have go : ∀ (rs m : List Mono), (∀ r ∈ rs, r ∈ ps) → (∀ p ∈ m, ∃ q ∈ ps, q.1 = p.1) → ∀ p ∈ rs.foldl (lstep P) m, ∃ q ∈ ps, q.1 = p.1 := by
    intro rs
    induction rs with
    | nil => intro m _ h; exact h
    | cons r rs ih =>
      intro m hr hm
      refine ih _ (fun q hq => hr q (by simp [hq])) fun p hp => ?_
      rcases aput_mem hp with z | z
      · exact ⟨r, hr r (by simp), by rw [z]⟩
      · exact hm p z
  exact go ps [] (fun r hr => hr) (fun p hp => nomatch hp)
/-- a sum's sum is itself -/
theorem sum_again {P L : Int} (hP : PrimeOk P) {ps out : List Mono} (hl : ps.length ≤ 12) (h : PsOk P L ps) (hs : IsSum P ps out) : out.length ≤ 12 ∧ SumOk P out ∧ IsSum P out out ∧ ∀ q ∈ out, (q.1.length : Int) = L ∧ ∀ e ∈ q.1, 0 ≤ e := by
  have hB := hP.b
  have h' : ∀ p ∈ ps, OkN P p.2 ∧ Sz 103 p.2 := fun p hp => ⟨(h p hp).1, (h p hp).2.1⟩
  have sok := sumOk_drawn hP hl h'
  have okm : ∀ q ∈ acc P ps, OkN P q.2 := acc_ok hB.1 hB.2.2 fun q hq => (h' q hq).1
  have mem : ∀ q ∈ out, q ∈ acc P ps ∧ nz q = true := fun q hq => List.mem_filter.mp (hs.1.mem_iff.mp hq)
  have ln : out.length ≤ 12 := by
    have e1 := hs.1.length_eq
    have e2 := List.length_filter_le nz (acc P ps)
    have e3 := acc_len P ps
    omega
  have szA : ∀ q ∈ acc P ps, Sz 1900 q.2 := fun q hq => sok.2 ps.length q (by rw [List.take_length]; exact hq)
  have nd : (out.map (·.1)).Nodup := by
    have z : (((acc P ps).filter nz).map (·.1)).Nodup := (List.Sublist.map _ List.filter_sublist).nodup (acc_nodup P ps)
    exact (hs.1.map _).nodup_iff.mpr z
  have oko : ∀ q ∈ out, OkN P q.2 := fun q hq => okm q (mem q hq).1
  refine ⟨ln, ⟨fun q hq => ⟨oko q hq, szA q (mem q hq).1⟩, fun i q hq => ?_⟩, ⟨?_, hs.2⟩, fun q hq => ?_⟩
  · have sub : ((out.take i).map (·.1)).Nodup := (List.Sublist.map _ (List.take_sublist _ _)).nodup nd
    rw [acc_whole sub fun q hq => oko q (List.mem_of_mem_take hq)] at hq
    exact szA q (mem q (List.mem_of_mem_take hq)).1
  · rw [acc_whole nd oko, List.filter_eq_self.mpr fun q hq => (mem q hq).2]
  · obtain ⟨r, hr, e⟩ := acc_from q (mem q hq).1
    rw [← e]
    exact ⟨(h r hr).2.2.1, (h r hr).2.2.2⟩

theorem nn_ints (ns : List Int) (h : ∀ e ∈ ns, 0 ≤ e) : (ns.map V.int).all nnI = true := by
  rw [List.all_eq_true]
  intro x hx
  obtain ⟨z, hz, rfl⟩ := List.mem_map.mp hx
  exact decide_eq_true (h z hz)
def prodV (xs : List V) (L : Int) : Bool := decide ((xs.length : Int) = L) && xs.all nnI
def spIsProd (K : PySem.W.Frag) : Sp := fun vs H Q _ => ∃ (v : V) (L : Int), vs = [v, .int L] ∧
  ((∃ t, TyOf K H v t ∧ PySem.W.kitOne K t (.type "tuple") = some false ∧ Q (.bl false) H) ∨
    ∃ a xs, v = .ref a ∧ H a = some (.tup xs) ∧ xs.length ≤ 1000 ∧ (∀ x ∈ xs, Typed K H x) ∧ ∀ H', Same H H' → Q (.bl (prodV xs L)) H')
section
variable {P : Program} {w : World} {K : PySem.W.Frag} {mg : Str → Option Value} {base : Heap}
theorem sc_is_whole_number : FnScope ["thing"] ["thing"] (defScope s_is_whole_number) := ⟨rfl, rfl, rfl, by decide +kernel, rfl, by decide +kernel, by decide +kernel⟩
theorem ok_iswhole {f : Addr} {fd : FuncData} (F : Fun K "is_whole_number" "is_whole_number" s_is_whole_number f fd) (T : Blt mg) : FnOk P w K mg base CX0 1 f fd ["thing"] (spWhole K) := by
  refine F.ok sc_is_whole_number (fun vs H Q E h => ?_) (fun cdv A outer s H vs Q E hr h => ?_)
  · obtain ⟨v, t, b, c, rfl, _⟩ := h
    rfl
  · obtain ⟨v, t, b, c, rfl, ty, h1, h2, q⟩ := h
    refine ⟨_, (pss_one (ps_ret (pe_and (kpl_is K T (pv 0) T.int boot_int') (pe_one (pe_not (kpl_is K T (pv 0) T.bool boot_bool')))))), ?_⟩
    refine ⟨_, rfl, t, b, ty, h1, _, rfl, ?_⟩
    cases b with
    | false => exact iteF q
    | true => exact iteT ⟨_, rfl, t, c, ty, h2, _, rfl, q⟩
theorem sc_is_product : FnScope ["thing", "letters"] ["thing", "letters"] (defScope s_is_product) := ⟨rfl, rfl, rfl, by decide +kernel, rfl, by decide +kernel, by decide +kernel⟩
theorem ok_isproduct {f : Addr} {fd : FuncData} (F : Fun K "is_product" "is_product" s_is_product f fd) (T : Blt mg) (Gis_whole_number : FnB P w K mg base 1 "is_whole_number" (spWhole K)) : FnOk P w K mg base CX0 2 f fd ["thing", "letters"] (spIsProd K) := by
  refine F.ok sc_is_product (fun vs H Q E h => ?_) (fun cdv A outer s H vs Q E hr h => ?_)
  · obtain ⟨v, L, rfl, _⟩ := h
    rfl
  · obtain ⟨v, L, rfl, h⟩ := h
    refine ⟨_, (pss_cons (ps_if (PW.pt (pw_or (pt_not (pt_val (kpl_is K T (pv 0) T.tuple boot_tuple'))) (pw_or1 (pt_cmpR op_ne (kpl_len K T (pv 0)) (pv 1) (nomark _)))))
(pss_one (ps_ret pe_bl))
pss_nil)
(pss_one (ps_ret (kpl_all K T (by exact pe_comp (N := ["often"]) (src := [none]) rfl rfl rfl (by exact (kpi_tup K rfl (pv 0))) (fun _ _ _ => by exact ⟨by exact (pg_nm (i := 0) nd_2 rfl rfl), pif_nil, by exact (pe_and (pe_fn Gis_whole_number (hr.mono (by first | decide | exact Nat.le_refl _)) (pa_cons (pv 0) pa_nil)) (pe_one (pe_cmpR op_ge (pv 0) pe_int (nomark _))))⟩)) false)))), ?_⟩
    rcases h with ⟨t, ty, e, q⟩ | ⟨a, xs, rfl, ha, hl, hty, q⟩
    · exact ⟨_, rfl, t, false, ty, e, _, rfl, iteT (iteT q)⟩
    · refine ⟨_, rfl, _, true, .tup ha, rfl, _, rfl, iteF ?_⟩
      refine ⟨_, rfl, a, xs, rfl, .inr (SqT.of ha), _, rfl, rfl, _, rfl, ?_⟩
      by_cases hL : (xs.length : Int) = L
      · refine iteNS (congrArg V.int hL) ?_
        refine ⟨_, rfl, a, rfl, ⟨_, SqT.of ha⟩, comp_tup (fun x => .bl (nnI x)) rfl (SqT.of ha) (Nat.le_of_lt (small1000 hl)) (fun i x H1 R hx sm hR => ?_) (fun acc H1 hacc sm hl1 => ?_)⟩
        · obtain ⟨t, b, c, ty, h1, h2, e⟩ := (hty x (List.mem_of_getElem? hx)).same sm
          refine ⟨_, rfl, x, t, b, c, rfl, ty, h1, h2, _, rfl, ?_⟩
          rw [e]
          cases x with
          | int i => exact iteT ⟨_, rfl, _, _, rfl, rfl, hR⟩
          | _ => exact iteF hR
        · have e1 : xs.map (fun x => V.bl (nnI x)) = (xs.map nnI).map V.bl := by rw [List.map_map]; rfl
          rw [e1] at hl1
          refine ⟨acc, _, rfl, sqvL (SqL.of hl1), ?_⟩
          have z := q H1 sm
          unfold prodV at z
          rw [decide_eq_true hL, Bool.true_and] at z
          rw [List.all_map]
          exact z
      · have e0 : (!decide (V.int (xs.length : Int) = V.int L)) = true := by
          rw [decide_eq_false (fun z => hL (by injection z))]; rfl
        rw [e0]
        have z := q H (Same.refl H)
        unfold prodV at z
        rw [decide_eq_false hL, Bool.false_and] at z
        exact iteT z
end

/-! is it a number -/
def spPair (K : PySem.W.Frag) : Sp := fun vs H Q _ => ∃ v, vs = [v] ∧ ((∃ t, TyOf K H v t ∧ PySem.W.kitOne K t (.type "tuple") = some false ∧ Q (.bl false) H) ∨ ∃ a xs, v = .ref a ∧ H a = some (.tup xs) ∧ Q (.bl (decide ((xs.length : Int) = 2))) H)
def spFIs (K : PySem.W.Frag) : Sp := fun vs H Q _ => ∃ (x v : V), vs = [x, v] ∧ Thing K H v ∧ Q (.bl (fracV H v)) H
def spRIs (K : PySem.W.Frag) (CR : Addr) : Sp := fun vs H Q _ => ∃ (x dx : Addr) (p : Int) (v : V), vs = [.ref x, v] ∧ H x = some (.ins CR dx [("modulus", .int p)]) ∧ Typed K H v ∧ Q (.bl (restV p v)) H
section
variable {P : Program} {w : World} {K : PySem.W.Frag} {mg : Str → Option Value} {base : Heap}
theorem sc_is_pair : FnScope ["thing"] ["thing"] (defScope s_is_pair) := ⟨rfl, rfl, rfl, by decide +kernel, rfl, by decide +kernel, by decide +kernel⟩
theorem ok_pair {f : Addr} {fd : FuncData} (F : Fun K "is_pair" "is_pair" s_is_pair f fd) (T : Blt mg) : FnOk P w K mg base CX0 1 f fd ["thing"] (spPair K) := by
  refine F.ok sc_is_pair (fun vs H Q E h => ?_) (fun cdv A outer s H vs Q E hr h => ?_)
  · obtain ⟨v, rfl, _⟩ := h
    rfl
  · obtain ⟨v, rfl, h⟩ := h
    refine ⟨_, (pss_one (ps_ret (pe_and (kpl_is K T (pv 0) T.tuple boot_tuple') (pe_one (pe_cmpR op_eq (kpl_len K T (pv 0)) pe_int (nomark _)))))), ?_⟩
    rcases h with ⟨t, ty, e, q⟩ | ⟨a, xs, rfl, ha, q⟩
    · exact ⟨_, rfl, t, false, ty, e, _, rfl, iteF q⟩
    · refine ⟨_, rfl, _, true, .tup ha, rfl, _, rfl, iteT ?_⟩
      refine ⟨_, rfl, a, xs, rfl, .inr (SqT.of ha), rfl, ?_⟩
      rw [show decide (V.int (xs.length : Int) = V.int 2) = decide ((xs.length : Int) = 2) from decide_eq_decide.mpr ⟨fun z => by injection z, fun z => congrArg V.int z⟩]
      exact q
theorem sc_Fractions_is_number : FnScope ["self", "thing"] ["self", "thing"] (defScope s_Fractions_is_number) := ⟨rfl, rfl, rfl, by decide +kernel, rfl, by decide +kernel, by decide +kernel⟩
theorem ok_fis {f : Addr} {fd : FuncData} (F : Fun K "is_number" "Fractions.is_number" s_Fractions_is_number f fd) (Gis_pair : FnB P w K mg base 1 "is_pair" (spPair K)) (Gis_whole_number : FnB P w K mg base 1 "is_whole_number" (spWhole K)) (Ggreatest_divisor : FnB P w K mg base 1 "greatest_divisor" spGcd) :
    FnOk P w K mg base CX0 2 f fd ["self", "thing"] (spFIs K) := by
  refine F.ok sc_Fractions_is_number (fun vs H Q E h => ?_) (fun cdv A outer s H vs Q E hr h => ?_)
  · obtain ⟨x, v, rfl, _⟩ := h
    rfl
  · obtain ⟨x, v, rfl, ⟨ty, hv⟩, q⟩ := h
    refine ⟨_, (pss_cons (ps_if (PW.pt (pw_or (pt_not (pt_val (pe_fn Gis_pair (hr.mono (by first | decide | exact Nat.le_refl _)) (pa_cons (pv 1) pa_nil)))) (pw_or (pt_not (pt_val (pe_fn Gis_whole_number (hr.mono (by first | decide | exact Nat.le_refl _)) (pa_cons (pe_ix (kix_tup K rfl) (pv 1) pe_int (fun _ _ => rfl)) pa_nil)))) (pw_or1 (pt_not (pt_val (pe_fn Gis_whole_number (hr.mono (by first | decide | exact Nat.le_refl _)) (pa_cons (pe_ix (kix_tup K rfl) (pv 1) pe_int (fun _ _ => rfl)) pa_nil))))))))
(pss_one (ps_ret pe_bl))
pss_nil)
(pss_one (ps_ret (pe_and (pe_cmpR op_ge (pe_ix (kix_tup K rfl) (pv 1) pe_int (fun _ _ => rfl)) pe_int (nomark _)) (pe_one (pe_cmpR op_eq (pe_fn Ggreatest_divisor (hr.mono (by first | decide | exact Nat.le_refl _)) (pa_cons (pe_ix (kix_tup K rfl) (pv 1) pe_int (fun _ _ => rfl)) (pa_cons (pe_ix (kix_tup K rfl) (pv 1) pe_int (fun _ _ => rfl)) pa_nil))) pe_int (nomark _))))))), ?_⟩
    rcases hv with ⟨t, ty, e, hn⟩ | ⟨a, xs, rfl, ha, hl, hty, hbd⟩
    · rw [fracV_not hn] at q
      exact ⟨_, rfl, v, rfl, .inl ⟨t, ty, e, _, rfl, iteT (iteT q)⟩⟩
    · rw [fracV_tup ha] at q
      refine ⟨_, rfl, .ref a, rfl, .inr ⟨a, xs, rfl, ha, _, rfl, ?_⟩⟩
      by_cases hL : (xs.length : Int) = 2
      · rw [decide_eq_true hL]
        refine iteF ?_
        match xs, hL with
        | [x, y], _ =>
        obtain ⟨t1, b1, c1, ty1, h11, h12, e1⟩ := hty x (by simp)
        obtain ⟨t2, b2, c2, ty2, h21, h22, e2⟩ := hty y (by simp)
        refine ⟨_, rfl, a, _, _, _, rfl, rfl, SqT.of ha, rfl, x, t1, b1, c1, rfl, ty1, h11, h12, _, rfl, ?_⟩
        rw [e1]
        cases x with
        | int n =>
          refine iteF ?_
          refine ⟨_, rfl, a, _, _, _, rfl, rfl, SqT.of ha, rfl, y, t2, b2, c2, rfl, ty2, h21, h22, _, rfl, ?_⟩
          rw [e2]
          cases y with
          | int d =>
            refine iteF ?_
            refine ⟨_, rfl, a, _, _, _, rfl, rfl, SqT.of ha, rfl, _, _, rfl, rfl, _, rfl, ?_⟩
            have q' : Q (.bl (decide (1 ≤ d) && decide (Int.gcd n d = 1))) H := q
            by_cases hd : 1 ≤ d
            · rw [decide_eq_true hd, Bool.true_and] at q'
              rw [decide_eq_true hd]
              refine iteT ⟨_, rfl, a, _, _, _, rfl, rfl, SqT.of ha, rfl, _, rfl, a, _, _, _, rfl, rfl, SqT.of ha, rfl, n, d, rfl, rfl, ?_⟩
              rw [show decide (V.int (Int.gcd n d : Int) = V.int 1) = decide (Int.gcd n d = 1) from decide_eq_decide.mpr ⟨fun z => by injection z with z; omega, fun z => by rw [z]; rfl⟩]
              exact q'
            · rw [decide_eq_false hd, Bool.false_and] at q'
              rw [decide_eq_false hd]
              exact iteF q'
          | _ => exact iteT q
        | _ => exact iteT (iteT (by cases y <;> exact q))
      · rw [decide_eq_false hL]
        have ep : pairV xs = false := by
          unfold pairV
          split
          · exact absurd rfl hL
          · rfl
        rw [ep] at q
        exact iteT (iteT q)
theorem sc_Rests_is_number : FnScope ["self", "thing"] ["self", "thing"] (defScope s_Rests_is_number) := ⟨rfl, rfl, rfl, by decide +kernel, rfl, by decide +kernel, by decide +kernel⟩
theorem ok_ris {f CR : Addr} {fd : FuncData} (F : Fun K "is_number" "Rests.is_number" s_Rests_is_number f fd) (cl : Cls K CR) (nM : NoAttr K CR "modulus") (Gis_whole_number : FnB P w K mg base 1 "is_whole_number" (spWhole K)) : FnOk P w K mg base CX0 2 f fd ["self", "thing"] (spRIs K CR) := by
  refine F.ok sc_Rests_is_number (fun vs H Q E h => ?_) (fun cdv A outer s H vs Q E hr h => ?_)
  · obtain ⟨x, dx, p, v, rfl, _⟩ := h
    rfl
  · obtain ⟨x, dx, p, v, rfl, hx, ty, q⟩ := h
    refine ⟨_, (pss_one (ps_ret (pe_and (pe_fn Gis_whole_number (hr.mono (by first | decide | exact Nat.le_refl _)) (pa_cons (pv 1) pa_nil)) (pe_and (pe_cmpR op_le pe_int (pv 1) (nomark _)) (pe_one (pe_cmpR op_lt (pv 1) (pe_fld (pv 0) rfl) (nomark _))))))), ?_⟩
    obtain ⟨t, b, c, ty, h1, h2, e⟩ := ty
    refine ⟨_, rfl, v, t, b, c, rfl, ty, h1, h2, _, rfl, ?_⟩
    rw [e]
    cases v with
    | int i =>
      refine iteT ⟨_, rfl, _, _, rfl, rfl, _, rfl, ?_⟩
      have q' : Q (.bl (decide (0 ≤ i) && decide (i < p))) H := q
      by_cases hi : 0 ≤ i
      · rw [decide_eq_true hi, Bool.true_and] at q'
        rw [decide_eq_true hi]
        exact iteT ⟨_, rfl, _, rfl, x, CR, dx, _, _, rfl, hx, cl, nM, rfl, _, _, rfl, rfl, q'⟩
      · rw [decide_eq_false hi, Bool.false_and] at q'
        rw [decide_eq_false hi]
        exact iteF q'
    | _ => exact iteF q
end
theorem mod_is (v : V) : List.lookup ("is_number" : Str) [(("modulus" : Str), v)] = none := by
  have e : (("is_number" : Str) == ("modulus" : Str)) = false := by decide +kernel
  simp only [List.lookup, e]
theorem isnum_go {K : PySem.W.Frag} {CF CR x : Addr} {p : Int} {v : V} {H : Hp} {σ : L2.St} {R : VK} {ta : TE} {t : TA} (hN : NumsAt CF CR H x p) (hT : Thing K H v) (ha : ∀ Z : VK, Z (.ref x) H → ta σ H Z) (ht : ∀ Z : List V → Hp → Prop, Z [v] H → t σ H Z) (hR : R (.bl (numV p H v)) H) :
    tOrE (tMeth CF "is_number" (spFIs K) [] E0 ta t) (tMeth CR "is_number" (spRIs K CR) [] E0 ta t) σ H R := by
  rcases hN with ⟨h0, dx, e⟩ | ⟨h0, dx, e⟩
  · unfold numV at hR
    rw [if_pos h0] at hR
    exact .inl (ha _ ⟨x, dx, [], rfl, e, rfl, ht _ ⟨_, v, rfl, hT, hR⟩⟩)
  · unfold numV at hR
    rw [if_neg h0] at hR
    exact .inr (ha _ ⟨x, dx, _, rfl, e, mod_is _, ht _ ⟨x, dx, p, v, rfl, e, hT.1, hR⟩⟩)

/-! MARK1 -/
/-! things that may be parts, or sums -/
theorem lexGt_lt : ∀ a b : List Int, lexGt a b = HT.lexLt b a
  | [], [] => rfl
  | [], _ :: _ => rfl
  | _ :: _, [] => rfl
  | x :: a, y :: b => by
    rw [HT.lexLt_cons, ← lexGt_lt a b]
    unfold lexGt lexV gtI
    by_cases e : x = y
    · subst e
      simp [goOp]
    · rw [if_neg (fun z => e z.symm)]
      have e2 : (x == y) = false := by simpa using e
      show goOp ((x == y, decide (y < x)) :: _) _ = _
      rw [e2]
      rfl
theorem hgt_klt (a b : List Int) : hgt a.sum a b.sum b = klt (b.sum, b) (a.sum, a) := by
  unfold hgt klt gtI
  by_cases h : a.sum = b.sum
  · rw [if_pos h, if_pos h.symm]
    by_cases e : a = b
    · rw [if_pos e, if_pos e.symm]
    · rw [if_neg e, if_neg (fun z => e z.symm)]
      exact lexGt_lt a b
  · rw [if_neg h, if_neg (fun z => h z.symm)]
def NoTup (K : PySem.W.Frag) (H : Hp) (v : V) : Prop := ∃ t, TyOf K H v t ∧ PySem.W.kitOne K t (.type "tuple") = some false ∧ ∀ a, v = .ref a → ∃ xs, H a = some (.lst xs)
theorem NoTup.soft {K : PySem.W.Frag} {H H' : Hp} {v : V} (s : Soft H H') (h : NoTup K H v) : NoTup K H' v := by
  obtain ⟨t, ty, e, hn⟩ := h
  refine ⟨t, TyOf.soft s ty, e, fun a ea => ?_⟩
  obtain ⟨xs, hx⟩ := hn a ea
  rcases s _ _ hx with z | ⟨_, ys, _, z⟩
  · exact ⟨_, z⟩
  · exact ⟨_, z⟩
/-- an item that may be a part -/
def Item (K : PySem.W.Frag) (H : Hp) (x : V) : Prop := NoTup K H x ∨ (∃ a xs, x = .ref a ∧ H a = some (.tup xs) ∧ (xs.length : Int) ≠ 2) ∨
  ∃ a u w, x = .ref a ∧ H a = some (.tup [u, w]) ∧ (NoTup K H u ∨ ∃ c es, u = .ref c ∧ H c = some (.tup es) ∧ es.length ≤ 1000 ∧ (∀ e ∈ es, Typed K H e) ∧ Thing K H w)
theorem Soft.tup {H H' : Hp} {a : Addr} {xs : List V} (s : Soft H H') (h : H a = some (.tup xs)) : H' a = some (.tup xs) := by
  rcases s _ _ h with z | ⟨_, _, z, _⟩
  · exact z
  · cases z
theorem Item.soft {K : PySem.W.Frag} {H H' : Hp} {x : V} (s : Soft H H') (h : Item K H x) : Item K H' x := by
  rcases h with h | ⟨a, xs, rfl, ha, hl⟩ | ⟨a, u, w, rfl, ha, h | ⟨c, es, rfl, hc, hl, hty, hw⟩⟩
  · exact .inl (h.soft s)
  · exact .inr (.inl ⟨a, xs, rfl, s.tup ha, hl⟩)
  · exact .inr (.inr ⟨a, u, w, rfl, s.tup ha, .inl (h.soft s)⟩)
  · exact .inr (.inr ⟨a, _, w, rfl, s.tup ha, .inr ⟨c, es, rfl, s.tup hc, hl, fun e he => (hty e he).soft s, hw.soft s⟩⟩)
/-- whether it is one, but for nought -/
def itemV (P L : Int) (H : Hp) : V → Bool
  | .ref a => match H a with
    | some (.tup [.ref c, w]) => match H c with
      | some (.tup es) => prodV es L && numV P H w
      | _ => false
    | _ => false
  | _ => false
def numP (H : Hp) : V → Int × Int
  | .int i => (i, 1)
  | .ref t => match H t with
    | some (.tup [.int n, .int d]) => (n, d)
    | _ => (0, 1)
  | _ => (0, 1)
def nzV (H : Hp) : V → Bool
  | .ref a => match H a with
    | some (.tup [_, w]) => decide (numP H w ≠ (0, 1))
    | _ => false
  | _ => false
def partV (P L : Int) (H : Hp) (x : V) : Bool := itemV P L H x && nzV H x
theorem itemV_no {K : PySem.W.Frag} {P L : Int} {H : Hp} {x : V} (h : NoTup K H x) : itemV P L H x = false := by
  obtain ⟨t, ty, e, hn⟩ := h
  cases x with
  | ref a =>
    obtain ⟨xs, hx⟩ := hn a rfl
    unfold itemV
    simp only [hx]
  | _ => rfl
theorem itemV_len {P L : Int} {H : Hp} {a : Addr} {xs : List V} (ha : H a = some (.tup xs)) (hl : (xs.length : Int) ≠ 2) : itemV P L H (.ref a) = false := by
  unfold itemV
  simp only [ha]
  split
  · rename_i h
    injection h with h
    injection h with h
    subst h
    exact absurd rfl hl
  · rfl
theorem itemV_no2 {K : PySem.W.Frag} {P L : Int} {H : Hp} {a : Addr} {u w : V} (ha : H a = some (.tup [u, w])) (h : NoTup K H u) : itemV P L H (.ref a) = false := by
  obtain ⟨t, ty, e, hn⟩ := h
  unfold itemV
  simp only [ha]
  cases u with
  | ref c =>
    obtain ⟨xs, hx⟩ := hn c rfl
    simp only [hx]
  | _ => rfl
theorem itemV_of {P L : Int} {H : Hp} {a c : Addr} {w : V} {es : List V} (ha : H a = some (.tup [.ref c, w])) (hc : H c = some (.tup es)) : itemV P L H (.ref a) = (prodV es L && numV P H w) := by
  unfold itemV
  simp only [ha, hc]
theorem nzV_of {H : Hp} {a : Addr} {u w : V} (ha : H a = some (.tup [u, w])) : nzV H (.ref a) = decide (numP H w ≠ (0, 1)) := by
  unfold nzV
  simp only [ha]
theorem numP_soft {K : PySem.W.Frag} {H H' : Hp} {w : V} (s : Soft H H') (h : Thing K H w) : numP H' w = numP H w := by
  obtain ⟨_, ⟨t, ty2, e, hn⟩ | ⟨a, xs, rfl, ha, hl, hty, hb⟩⟩ := h
  · cases w with
    | ref a =>
      obtain ⟨xs, hx⟩ := hn a rfl
      unfold numP
      rcases s _ _ hx with z | ⟨_, ys, _, z⟩
      · simp only [hx, z]
      · simp only [hx, z]
    | _ => rfl
  · unfold numP
    simp only [ha, s.tup ha]
theorem partV_soft {K : PySem.W.Frag} {P L : Int} {H H' : Hp} {x : V} (s : Soft H H') (h : Item K H x) : partV P L H' x = partV P L H x := by
  have h' := h.soft s
  rcases h with h | ⟨a, xs, rfl, ha, hl⟩ | ⟨a, u, w, rfl, ha, h⟩
  · unfold partV
    rw [itemV_no h, itemV_no (h.soft s), Bool.false_and, Bool.false_and]
  · unfold partV
    rw [itemV_len ha hl, itemV_len (s.tup ha) hl, Bool.false_and, Bool.false_and]
  · rcases h with h | ⟨c, es, rfl, hc, hl, hty, hw⟩
    · unfold partV
      rw [itemV_no2 ha h, itemV_no2 (s.tup ha) (h.soft s), Bool.false_and, Bool.false_and]
    · unfold partV
      rw [itemV_of ha hc, itemV_of (s.tup ha) (s.tup hc), nzV_of ha, nzV_of (s.tup ha), numV_soft s hw, numP_soft s hw]
/-- a number of the kind, as a pair -/
theorem num_at {K : PySem.W.Frag} {P : Int} (hP : PrimeOk P) {H : Hp} {w : V} (h : Thing K H w) (hv : numV P H w = true) : At P H w (numP H w) ∧ OkN P (numP H w) := by
  unfold numV at hv
  by_cases h0 : P = 0
  · rw [if_pos h0] at hv
    obtain ⟨_, ⟨t, ty2, e, hn⟩ | ⟨a, xs, rfl, ha, hl, hty, hb⟩⟩ := h
    · rw [fracV_not hn] at hv
      cases hv
    · rw [fracV_tup ha] at hv
      unfold pairV at hv
      split at hv
      · rename_i n d
        have hd := (Bool.and_eq_true _ _).mp hv
        have e : numP H (.ref a) = (n, d) := by
          unfold numP
          simp only [ha]
        rw [e]
        exact ⟨.inl ⟨h0, a, rfl, ha⟩, .inl ⟨h0, by have := of_decide_eq_true hd.1; show 0 < d; omega, of_decide_eq_true hd.2⟩⟩
      · cases hv
  · rw [if_neg h0] at hv
    cases w with
    | int i =>
      have hd := (Bool.and_eq_true _ _).mp (show (decide (0 ≤ i) && decide (i < P)) = true from hv)
      exact ⟨.inr ⟨h0, rfl, rfl⟩, .inr ⟨h0, of_decide_eq_true hd.1, of_decide_eq_true hd.2, rfl⟩⟩
    | _ => cases hv
theorem numP_at {P : Int} {H : Hp} {w : V} {x : Int × Int} (h : At P H w x) : numP H w = x := by
  rcases h with ⟨h0, t, rfl, e⟩ | ⟨h0, rfl, e⟩
  · unfold numP
    simp only [e]
  · exact Prod.ext rfl e.symm
/-- a part is an item -/
theorem PartR.item {K : PySem.W.Frag} {P L : Int} {H : Hp} {v : V} {p : Mono} (h : PartR P H v p) (o : OkN P p.2) (s : Sz 1900 p.2) (hl : p.1.length ≤ 10) : Item K H v := by
  obtain ⟨t, k, u, rfl, h1, h2, h3⟩ := h
  exact .inr (.inr ⟨t, _, u, rfl, h1, .inr ⟨k, _, rfl, h2, by rw [List.length_map]; omega, typed_ints _, (h3.thing (K := K) o s).1⟩⟩)
theorem PartR.itemV {F : PySem.W.Frag} {P L : Int} {H : Hp} {v : V} {p : Mono} (h : PartR P H v p) (o : OkN P p.2) (s : Sz 1900 p.2) (hl : (p.1.length : Int) = L) (hn : ∀ e ∈ p.1, 0 ≤ e) : K.itemV P L H v = true := by
  obtain ⟨t, k, u, rfl, h1, h2, h3⟩ := h
  rw [itemV_of h1 h2, (h3.thing (K := F) o s).2, Bool.and_true]
  unfold prodV
  rw [List.length_map, decide_eq_true hl, nn_ints _ hn]
  rfl
theorem PartR.partV {F : PySem.W.Frag} {P L : Int} {H : Hp} {v : V} {p : Mono} (h : PartR P H v p) (o : OkN P p.2) (s : Sz 1900 p.2) (hl : (p.1.length : Int) = L) (hn : ∀ e ∈ p.1, 0 ≤ e) : K.partV P L H v = nz p := by
  have e := h.itemV (F := F) o s hl hn
  obtain ⟨t, k, u, rfl, h1, h2, h3⟩ := h
  unfold K.partV
  rw [e, nzV_of h1, numP_at h3]
  rfl
/-! falling ones -/
def adj (ps : List Mono) : Bool := (List.zipWith (fun a b => klt (hk b) (hk a)) ps ps.tail).all id
def canonB (ps : List Mono) : Bool := ps.all nz && adj ps
theorem adj_pair : ∀ {ps : List Mono}, adj ps = true ↔ ps.Pairwise fun a b => klt (hk b) (hk a) = true
  | [] => by simp [adj]
  | [a] => by simp [adj]
  | a :: b :: r => by
    have ih := adj_pair (ps := b :: r)
    have e : adj (a :: b :: r) = (klt (hk b) (hk a) && adj (b :: r)) := rfl
    rw [e, Bool.and_eq_true, ih, List.pairwise_cons (a := a)]
    constructor
    · rintro ⟨h1, h2⟩
      refine ⟨fun c hc => ?_, h2⟩
      rcases List.mem_cons.mp hc with rfl | hc
      · exact h1
      · exact klt_trans ((List.pairwise_cons.mp h2).1 c hc) h1
    · rintro ⟨h1, h2⟩
      exact ⟨h1 b (by simp), h2⟩
theorem fall_nodup {ps : List Mono} (h : ps.Pairwise fun a b => klt (hk b) (hk a) = true) : (ps.map (·.1)).Nodup := by
  rw [List.Nodup, List.pairwise_map]
  refine h.imp fun {a b} hab z => ?_
  have e : hk a = hk b := by unfold hk; rw [z]
  rw [e, klt_irr] at hab
  cases hab
theorem canon_iff {P : Int} {ps out : List Mono} (ok : ∀ p ∈ ps, OkN P p.2) (h : IsSum P ps out) : decide (out = ps) = canonB ps := by
  by_cases hc : canonB ps = true
  · rw [hc]
    apply decide_eq_true
    unfold canonB at hc
    rw [Bool.and_eq_true, adj_pair] at hc
    have nd := fall_nodup hc.2
    have e : IsSum P ps ps := ⟨by rw [acc_whole nd ok, List.filter_eq_self.mpr (List.all_eq_true.mp hc.1)], hc.2⟩
    exact isSum_unique h e
  · rw [Bool.eq_false_iff.mpr hc]
    apply decide_eq_false
    rintro rfl
    apply hc
    unfold canonB
    rw [Bool.and_eq_true, adj_pair]
    exact ⟨List.all_eq_true.mpr fun q hq => (List.mem_filter.mp (h.1.mem_iff.mp hq)).2, h.2⟩
theorem eqv_dP2 {P : Int} {p q : Mono} (hp : OkN P p.2) (hq : OkN P q.2) : PyData.eqv (dP P p) (dP P q) = decide (p = q) := by
  have e : PyData.eqv (dP P p) (dP P q) = (PyData.eqv (dInts p.1) (dInts q.1) && PyData.eqv (dN P p.2) (dN P q.2)) := by
    unfold dP
    simp [PyData.eqv, PyData.eqvAll]
  rw [e, eqv_ints, eqv_dN2 hp hq, ← Bool.decide_and]
  exact decide_eq_decide.mpr ⟨fun z => Prod.ext z.1 z.2, fun z => ⟨by rw [z], by rw [z]⟩⟩
theorem eqv_dS2 {P : Int} : ∀ {a b : List Mono}, (∀ p ∈ a, OkN P p.2) → (∀ p ∈ b, OkN P p.2) → PyData.eqv (dS P a) (dS P b) = decide (a = b)
  | [], [], _, _ => by simp [dS, PyData.eqv, PyData.eqvAll]
  | [], _ :: _, _, _ => by simp [dS, PyData.eqv, PyData.eqvAll]
  | _ :: _, [], _, _ => by simp [dS, PyData.eqv, PyData.eqvAll]
  | p :: a, q :: b, ha, hb => by
    have ih := eqv_dS2 (P := P) (a := a) (b := b) (fun r hr => ha r (by simp [hr])) fun r hr => hb r (by simp [hr])
    have e : PyData.eqv (dS P (p :: a)) (dS P (q :: b)) = (PyData.eqv (dP P p) (dP P q) && PyData.eqv (dS P a) (dS P b)) := by
      unfold dS
      simp [PyData.eqv, PyData.eqvAll]
    rw [e, ih, eqv_dP2 (ha p (by simp)) (hb q (by simp)), ← Bool.decide_and]
    exact decide_eq_decide.mpr ⟨fun z => by rw [z.1, z.2], fun z => by injection z with z1 z2; exact ⟨z1, z2⟩⟩
theorem parts_map {F : PySem.W.Frag} {P L : Int} {H : Hp} : ∀ {ts : List V} {ps : List Mono}, PartsR P H ts ps → (∀ q ∈ ps, OkN P q.2 ∧ Sz 1900 q.2) → (∀ q ∈ ps, (q.1.length : Int) = L ∧ q.1.length ≤ 10 ∧ ∀ e ∈ q.1, 0 ≤ e) → ts.map (partV P L H) = ps.map nz
  | _, _, .nil, _, _ => rfl
  | _, _, .cons a r, ok, hL => by
    rw [List.map_cons, List.map_cons, a.partV (F := F) (ok _ (by simp)).1 (ok _ (by simp)).2 (hL _ (by simp)).1 (hL _ (by simp)).2.2, parts_map (F := F) r (fun q hq => ok q (by simp [hq])) fun q hq => hL q (by simp [hq])]
/-- a thing that may be a sum, and whether it is -/
def SThing (K : PySem.W.Frag) (P L : Int) (H : Hp) (p : Addr) (v : V) (b : Bool) : Prop :=
  (b = false ∧ ∃ t, TyOf K H v t ∧ PySem.W.kitOne K t (.type "list") = some false) ∨
  (b = false ∧ ∃ l xs, v = .ref l ∧ l ≠ p ∧ H l = some (.lst xs) ∧ xs.length ≤ 60 ∧ (∀ x ∈ xs, Item K H x) ∧ ∃ x ∈ xs, itemV P L H x = false) ∨
  ∃ l ts ps, v = .ref l ∧ l ≠ p ∧ H l = some (.lst ts) ∧ PartsR P H ts ps ∧ ps.length ≤ 60 ∧ SumOk P ps ∧ (∀ q ∈ ps, (q.1.length : Int) = L ∧ q.1.length ≤ 10 ∧ ∀ e ∈ q.1, 0 ≤ e) ∧ b = canonB ps

def spHeight (K : PySem.W.Frag) : Sp := fun vs H Q _ => ∃ (a : Addr) (ns : List Int), vs = [.ref a] ∧ SqT K H a (ns.map V.int) ∧ ∀ t, H t = none → Q (.ref t) (upd H t (.tup [.int ns.sum, .ref a]))
def spAbove (K : PySem.W.Frag) : Sp := fun vs H Q _ => ∃ (a b : Addr) (ns ms : List Int), vs = [.ref a, .ref b] ∧ SqT K H a (ns.map V.int) ∧ SqT K H b (ms.map V.int) ∧ ∀ H', Same H H' → Q (.bl (hgt ns.sum ns ms.sum ms)) H'
section
variable {P : Program} {w : World} {K : PySem.W.Frag} {mg : Str → Option Value} {base : Heap}
theorem sc_height : FnScope ["one"] ["one"] (defScope s_height) := ⟨rfl, rfl, rfl, by decide +kernel, rfl, by decide +kernel, by decide +kernel⟩
theorem ok_height {f : Addr} {fd : FuncData} (F : Fun K "height" "height" s_height f fd) (Gdegree : FnB P w K mg base 1 "degree" (spDeg K)) : FnOk P w K mg base CX0 2 f fd ["one"] (spHeight K) := by
  refine F.ok sc_height (fun vs H Q E h => ?_) (fun cdv A outer s H vs Q E hr h => ?_)
  · obtain ⟨a, ns, rfl, _⟩ := h
    rfl
  · obtain ⟨a, ns, rfl, ha, q⟩ := h
    refine ⟨_, (pss_one (ps_ret (pe_tup (pa_cons (pe_fn Gdegree (hr.mono (by first | decide | exact Nat.le_refl _)) (pa_cons (pv 0) pa_nil)) (pa_cons (pv 0) pa_nil))))), ?_⟩
    exact ⟨_, rfl, a, ns, rfl, ha, _, rfl, by show 2 ≤ sizeLine; decide, q⟩
theorem sc_is_above : FnScope ["one", "other"] ["one", "other"] (defScope s_is_above) := ⟨rfl, rfl, rfl, by decide +kernel, rfl, by decide +kernel, by decide +kernel⟩
theorem ok_above {f : Addr} {fd : FuncData} (F : Fun K "is_above" "is_above" s_is_above f fd) (Gheight : FnB P w K mg base 2 "height" (spHeight K)) : FnOk P w K mg base CX0 3 f fd ["one", "other"] (spAbove K) := by
  refine F.ok sc_is_above (fun vs H Q E h => ?_) (fun cdv A outer s H vs Q E hr h => ?_)
  · obtain ⟨a, b, ns, ms, rfl, _⟩ := h
    rfl
  · obtain ⟨a, b, ns, ms, rfl, ha, hb, q⟩ := h
    refine ⟨_, (pss_one (ps_ret (pe_cmpR (kgtP (k := 0) (K := K) rfl (hr.mono (by decide))) (pe_fn Gheight (hr.mono (by first | decide | exact Nat.le_refl _)) (pa_cons (pv 0) pa_nil)) (pe_fn Gheight (hr.mono (by first | decide | exact Nat.le_refl _)) (pa_cons (pv 1) pa_nil)) (nomark _)))), ?_⟩
    refine ⟨_, rfl, a, ns, rfl, ha, fun t1 n1 => ?_⟩
    have s1 := Same.new (o := .tup [.int ns.sum, .ref a]) n1
    refine ⟨_, rfl, b, ms, rfl, s1.sqT hb, fun t2 n2 => ?_⟩
    have s2 := Same.new (o := .tup [.int ms.sum, .ref b]) n2
    exact ⟨t1, t2, a, b, ns.sum, ms.sum, ns, ms, rfl, rfl, SqT.of (s2 _ _ upd_same), SqT.of upd_same, (s1.trans s2).sqT ha, (s1.trans s2).sqT hb, q _ (s1.trans s2)⟩
end

/-! MARK2 -/
/-! is it a sum: the program -/
def spPart (K : PySem.W.Frag) (CF CR CG : Addr) : Sp := fun vs H Q _ => ∃ (g x : Addr) (P L : Int) (v : V), vs = [.ref g, v] ∧ PrimeOk P ∧ RingAt CG H g x L ∧ NumsAt CF CR H x P ∧ Item K H v ∧ ∀ H', Same H H' → Q (.bl (partV P L H v)) H'
section
variable {P : Program} {w : World} {K : PySem.W.Frag} {mg : Str → Option Value} {base : Heap}
theorem sc_is_part : FnScope ["ring", "thing"] ["ring", "thing"] (defScope s_is_part) := ⟨rfl, rfl, rfl, by decide +kernel, rfl, by decide +kernel, by decide +kernel⟩
theorem ok_part {f CF CR CG C_NoNumber : Addr} {fd : FuncData} (F : Fun K "is_part" "is_part" s_is_part f fd) (Gis_pair : FnB P w K mg base 1 "is_pair" (spPair K)) (Gis_product : FnB P w K mg base 2 "is_product" (spIsProd K)) (MtRn : MtB P w K mg base 1 CG "numbers" (spRNum CG)) (MtRl : MtB P w K mg base 1 CG "letters" (spRLet CG))
    (MtF : MtB P w K mg base 2 CF "is_number" (spFIs K)) (MtR : MtB P w K mg base 2 CR "is_number" (spRIs K CR)) (MtOf1 : MtBX P w K mg base 2 CF "of" [.int 1] (spFOfX C_NoNumber)) (MtRf1 : MtBX P w K mg base 2 CR "of" [.int 1] (spROfX CR C_NoNumber)) :
    FnOk P w K mg base CX0 3 f fd ["ring", "thing"] (spPart K CF CR CG) := by
  refine F.ok sc_is_part (fun vs H Q E h => ?_) (fun cdv A outer s H vs Q E hr h => ?_)
  · obtain ⟨g, x, P, L, v, rfl, _⟩ := h
    rfl
  · obtain ⟨g, x, P, L, v, rfl, hP, hG, hN, hv, q⟩ := h
    have hB := hP.b
    refine ⟨_, (pss_cons (ps_if (PW.pt (pw_or (pt_not (pt_val (pe_fn Gis_pair (hr.mono (by first | decide | exact Nat.le_refl _)) (pa_cons (pv 1) pa_nil)))) (pw_or1 (pt_not (pt_val (pe_fn Gis_product (hr.mono (by first | decide | exact Nat.le_refl _)) (pa_cons (pe_ix (kix_tup K rfl) (pv 1) pe_int (fun _ _ => rfl)) (pa_cons (pe_mt0 MtRl (hr.mono (by first | decide | exact Nat.le_refl _)) (pv 0)) pa_nil))))))))
(pss_one (ps_ret pe_bl))
pss_nil)
(pss_one (ps_ret (pe_and (pe_two (pe_mt MtF (hr.mono (by first | decide | exact Nat.le_refl _)) (pe_mt0 MtRn (hr.mono (by first | decide | exact Nat.le_refl _)) (pv 0)) (pa_cons (pe_ix (kix_tup K rfl) (pv 1) pe_int (fun _ _ => rfl)) pa_nil)) (pe_mt MtR (hr.mono (by first | decide | exact Nat.le_refl _)) (pe_mt0 MtRn (hr.mono (by first | decide | exact Nat.le_refl _)) (pv 0)) (pa_cons (pe_ix (kix_tup K rfl) (pv 1) pe_int (fun _ _ => rfl)) pa_nil))) (pe_one (pe_cmpR (kneD K rfl hr.units) (pe_ix (kix_tup K rfl) (pv 1) pe_int (fun _ _ => rfl)) (pe_two (pe_mtX MtOf1 (hr.mono (by first | decide | exact Nat.le_refl _)) passE0 (pe_mt0 MtRn (hr.mono (by first | decide | exact Nat.le_refl _)) (pv 0)) (pa_cons pe_int pa_nil)) (pe_mtX MtRf1 (hr.mono (by first | decide | exact Nat.le_refl _)) passE0 (pe_mt0 MtRn (hr.mono (by first | decide | exact Nat.le_refl _)) (pv 0)) (pa_cons pe_int pa_nil))) (nomark _))))))), ?_⟩
    obtain ⟨dxg, hg⟩ := id hG
    rcases hv with ⟨t, ty, e, hn⟩ | ⟨a, xs, rfl, ha, hl⟩ | ⟨a, u, w, rfl, ha, h⟩
    · have z := q H (Same.refl H)
      unfold partV at z
      rw [itemV_no ⟨t, ty, e, hn⟩] at z
      exact ⟨_, rfl, v, rfl, .inl ⟨t, ty, e, _, rfl, iteT (iteT z)⟩⟩
    · have z := q H (Same.refl H)
      unfold partV at z
      rw [itemV_len ha hl] at z
      refine ⟨_, rfl, _, rfl, .inr ⟨a, xs, rfl, ha, _, rfl, ?_⟩⟩
      rw [decide_eq_false hl]
      exact iteT (iteT z)
    refine ⟨_, rfl, _, rfl, .inr ⟨a, _, rfl, ha, _, rfl, iteF ?_⟩⟩
    refine ⟨_, rfl, a, _, _, _, rfl, rfl, SqT.of ha, rfl, _, rfl, g, dxg, _, rfl, hg, rfl, g, x, L, rfl, hG, u, L, rfl, ?_⟩
    rcases h with ⟨t, ty, e, hn⟩ | ⟨c, es, rfl, hc, hl, hty, hw⟩
    · have z := q H (Same.refl H)
      unfold partV at z
      rw [itemV_no2 ha ⟨t, ty, e, hn⟩] at z
      exact .inl ⟨t, ty, e, _, rfl, iteT z⟩
    refine .inr ⟨c, es, rfl, hc, hl, hty, fun H1 s1 => ⟨_, rfl, ?_⟩⟩
    unfold partV at q
    rw [itemV_of ha hc, nzV_of ha] at q
    by_cases hp : prodV es L = true
    · rw [hp] at q ⊢
      refine iteF ?_
      have ha1 := s1 _ _ ha
      have hg1 := s1 _ _ hg
      have hG1 : RingAt CG H1 g x L := ⟨dxg, hg1⟩
      have hN1 := hN.mono fun o e => s1 _ _ e
      have hw1 := hw.soft (Soft.of s1)
      refine isnum_go hN1 hw1 (fun Z z => ⟨_, rfl, g, dxg, _, rfl, hg1, rfl, g, x, L, rfl, hG1, z⟩) (fun Z z => ⟨_, rfl, a, _, _, _, rfl, rfl, SqT.of ha1, rfl, z⟩) ?_
      rw [numV_soft (Soft.of s1) hw]
      by_cases hv : numV P H w = true
      · rw [hv] at q ⊢
        refine ⟨_, rfl, iteT ?_⟩
        obtain ⟨at1, ok1⟩ := num_at hP hw hv
        refine ⟨_, rfl, a, _, _, _, rfl, rfl, SqT.of ha1, rfl, ?_⟩
        refine of_go hP hN1 (a := 0) (vs := [.int 0]) (dvs := [.int 1]) rfl (fun Z z => ⟨_, rfl, g, dxg, _, rfl, hg1, rfl, g, x, L, rfl, hG1, z⟩) (fun Z z => z) fun r H2 s2 a2 => ?_
        rw [zero_if] at a2
        refine ⟨dN P (numP H w), dN P (0, 1), dr_at ((at1.same s1).same s2), dr_at a2, shaped_dN _ _, shaped_dN _ _, ?_⟩
        rw [eqv_dN2 ok1 (okN_zero hB.1 hB.2.2)]
        have z := q H2 (s1.trans s2)
        rw [decide_not] at z
        exact z
      · rw [Bool.eq_false_iff.mpr hv] at q ⊢
        exact ⟨_, rfl, iteF (q H1 s1)⟩
    · rw [Bool.eq_false_iff.mpr hp] at q ⊢
      exact iteT (q H1 s1)
theorem cut_from (ts : List V) : cutV ts (some 1) none = ts.drop 1 := by
  unfold cutV HT.sIx
  cases ts with
  | nil => rfl
  | cons a r =>
    have e1 : ¬ ((1 : Int) < 0) := by decide
    simp [e1]
theorem zip_keys {P : Int} {H : Hp} {ts : List V} {ps : List Mono} (h : PartsR P H ts ps) : List.zipWith (fun x y => V.bl (klt (keyP H y) (keyP H x))) ts (ts.drop 1) = (List.zipWith (fun a b => klt (hk b) (hk a)) ps ps.tail).map V.bl := by
  have e := h.keys
  have e1 : List.zipWith (fun x y => V.bl (klt (keyP H y) (keyP H x))) ts (ts.drop 1) = List.zipWith (fun a b => V.bl (klt b a)) (ts.map (keyP H)) ((ts.map (keyP H)).drop 1) := by
    rw [← List.map_drop, List.zipWith_map]
  rw [e1, e, ← List.map_drop, List.zipWith_map, List.map_zipWith, List.drop_one]
def spIsSum (K : PySem.W.Frag) (CF CR CG : Addr) : Sp := fun vs H Q _ => ∃ (g x p : Addr) (P L : Int) (v : V) (b : Bool), vs = [.ref g, v] ∧ PrimeOk P ∧ RingAt CG H g x L ∧ NumsAt CF CR H x P ∧ SThing K P L H p v b ∧ ∀ H', Same H H' → Q (.bl b) H'
theorem sc_is_sum : FnScope ["ring", "thing"] ["ring", "thing"] (defScope s_is_sum) := ⟨rfl, rfl, rfl, by decide +kernel, rfl, by decide +kernel, by decide +kernel⟩
theorem ok_issum {f CF CR CG : Addr} {fd : FuncData} (F : Fun K "is_sum" "is_sum" s_is_sum f fd) (T : Blt mg) (Gis_part : FnB P w K mg base 3 "is_part" (spPart K CF CR CG)) (Gis_above : FnB P w K mg base 3 "is_above" (spAbove K)) :
    FnOk P w K mg base CX0 4 f fd ["ring", "thing"] (spIsSum K CF CR CG) := by
  refine F.ok sc_is_sum (fun vs H Q E h => ?_) (fun cdv A outer s H vs Q E hr h => ?_)
  · obtain ⟨g, x, p, P, L, v, b, rfl, _⟩ := h
    rfl
  · obtain ⟨g, x, p, P, L, v, b, rfl, hP, hG, hN, hv, q⟩ := h
    refine ⟨_, (pss_cons (ps_if (PW.pt (pw_or (pt_not (pt_val (kpl_is K T (pv 1) T.list boot_list'))) (pw_or1 (pt_not (pt_val (kpl_all K T (by exact pe_comp (N := ["part", "ring"]) (src := [none, some 0]) rfl rfl rfl (by exact (kpi_list K rfl (pv 1))) (fun _ _ _ => by exact ⟨by exact (pg_nm (i := 0) nd_3 rfl rfl), pif_nil, by exact (pe_fn Gis_part (hr.mono (by first | decide | exact Nat.le_refl _)) (pa_cons (pv 1) (pa_cons (pv 0) pa_nil)))⟩)) false))))))
(pss_one (ps_ret pe_bl))
pss_nil)
(pss_one (ps_ret (kpl_all K T (by exact pe_comp (N := ["part", "behind"]) (src := [none, none]) rfl rfl rfl (by exact (kpi_zip K false false rfl rfl T.zip (pa_cons (pv 1) (pa_cons (pe_slice (ksl_list K rfl) (pv 1) (po_some pe_int) po_none) pa_nil)))) (fun _ _ _ => by exact ⟨by exact (pg_pair K (i := 0) (j := 1) rfl rfl nd_4 rfl rfl rfl rfl), pif_nil, by exact (pe_fn Gis_above (hr.mono (by first | decide | exact Nat.le_refl _)) (pa_cons (pe_ix (kix_tup K rfl) (pv 0) pe_int (fun _ _ => rfl)) (pa_cons (pe_ix (kix_tup K rfl) (pv 1) pe_int (fun _ _ => rfl)) pa_nil)))⟩)) false)))), ?_⟩
    obtain ⟨dxg, hg⟩ := id hG
    rcases hv with ⟨rfl, t, ty, e⟩ | ⟨rfl, l, xs, rfl, _, hl, hn, hI, y, hy, hyv⟩ | ⟨l, ts, ps, rfl, _, hl, hps, hn, hok, hL, rfl⟩
    · exact ⟨_, rfl, t, false, ty, e, _, rfl, iteT (iteT (q H (Same.refl H)))⟩
    · refine ⟨_, rfl, _, true, .lst hl, rfl, _, rfl, iteF ?_⟩
      refine ⟨_, rfl, l, rfl, ⟨_, SqL.of hl⟩, comp_lstS (fun x => .bl (partV P L H x)) rfl (SqL.of hl) (by rw [sizeLine_eq]; omega) (fun i v H1 R hx sm hR => ?_) (fun acc H1 hacc sm hl1 => ?_)⟩
      · have hi := (hI v (List.mem_of_getElem? hx))
        refine ⟨_, rfl, _, rfl, g, x, P, L, v, rfl, hP, ⟨dxg, sm _ _ hg⟩, hN.mono fun o e => sm _ _ e, hi.soft (Soft.of sm), fun H2 s2 => ?_⟩
        rw [partV_soft (Soft.of sm) hi]
        exact hR H2 s2
      · have e1 : xs.map (fun x => V.bl (partV P L H x)) = (xs.map (partV P L H)).map V.bl := by rw [List.map_map]; rfl
        rw [e1] at hl1
        refine ⟨acc, _, rfl, sqvL (SqL.of hl1), _, rfl, ?_⟩
        have e2 : (xs.map (partV P L H)).all id = false := by
          rw [List.all_map, List.all_eq_false]
          refine ⟨y, hy, ?_⟩
          show ¬ partV P L H y = true
          unfold partV
          rw [hyv, Bool.false_and]
          decide
        rw [e2]
        exact iteT (q H1 sm)
    · have lt : ts.length = ps.length := Paired.length hps
      refine ⟨_, rfl, _, true, .lst hl, rfl, _, rfl, iteF ?_⟩
      refine ⟨_, rfl, l, rfl, ⟨_, SqL.of hl⟩, comp_lstS (fun x => .bl (partV P L H x)) rfl (SqL.of hl) (by rw [sizeLine_eq]; omega) (fun i v H1 R hx sm hR => ?_) (fun acc H1 hacc sm hl1 => ?_)⟩
      · obtain ⟨r, er, hr⟩ := hps.at_ hx
        have mr := List.mem_of_getElem? er
        have hi : Item K H v := hr.item (L := L) (hok.1 r mr).1 (hok.1 r mr).2 (hL r mr).2.1
        refine ⟨_, rfl, _, rfl, g, x, P, L, v, rfl, hP, ⟨dxg, sm _ _ hg⟩, hN.mono fun o e => sm _ _ e, hi.soft (Soft.of sm), fun H2 s2 => ?_⟩
        rw [partV_soft (Soft.of sm) hi]
        exact hR H2 s2
      · have e1 : ts.map (fun x => V.bl (partV P L H x)) = (ps.map nz).map V.bl := by rw [← parts_map (F := K) hps hok.1 hL, List.map_map]; rfl
        rw [e1] at hl1
        refine ⟨acc, _, rfl, sqvL (SqL.of hl1), _, rfl, ?_⟩
        have z := q
        unfold canonB at z
        rw [List.all_map]
        show if (!(ps.all nz)) = true then _ else _
        by_cases hz : ps.all nz = true
        · rw [hz] at z ⊢
          refine iteF ?_
          refine ⟨_, rfl, _, rfl, _, rfl, l, ts, rfl, SqL.of (sm _ _ hl), fun l2 n2 => ?_⟩
          have s2 := Same.new (o := .lst (cutV ts (some 1) none)) n2
          have hcut : cutV ts (some 1) none = ts.drop 1 := cut_from ts
          rw [hcut] at s2 ⊢
          have hl2 : (upd H1 l2 (.lst (ts.drop 1))) l2 = some (.lst (ts.drop 1)) := upd_same
          generalize upd H1 l2 (.lst (ts.drop 1)) = H2 at *
          have s12 := sm.trans s2
          refine ⟨l, l2, rfl, ⟨_, sqvL (SqL.of (s12 _ _ hl))⟩, ⟨_, sqvL (SqL.of hl2)⟩, comp_zipS (fun x y => .bl (klt (keyP H y) (keyP H x))) rfl (sqvL (SqL.of (s12 _ _ hl))) (sqvL (SqL.of hl2)) (by rw [sizeLine_eq]; omega) (fun i v v' H3 R hx hy s3 hR => ?_) (fun acc H3 hacc s3 hl3 => ?_)⟩
          · rw [List.getElem?_drop] at hy
            obtain ⟨r, er, hr⟩ := hps.at_ hx
            obtain ⟨r', er', hr'⟩ := hps.at_ hy
            rw [hr.key, hr'.key] at hR
            obtain ⟨t, k, u, rfl, h1, h2, _⟩ := hr
            obtain ⟨t', k', u', rfl, h1', h2', _⟩ := hr'
            have s := s12.trans s3
            refine ⟨_, rfl, t, _, _, _, rfl, rfl, SqT.of (s _ _ h1), rfl, _, rfl, t', _, _, _, rfl, rfl, SqT.of (s _ _ h1'), rfl, k, k', r.1, r'.1, rfl, SqT.of (s _ _ h2), SqT.of (s _ _ h2'), fun H4 s4 => ?_⟩
            rw [hgt_klt]
            exact hR H4 s4
          · rw [zip_keys hps] at hl3
            refine ⟨acc, _, rfl, sqvL (SqL.of hl3), ?_⟩
            exact z H3 (s12.trans s3)
        · rw [Bool.eq_false_iff.mpr hz] at z ⊢
          exact iteT (z H1 sm)
end

/-! MARK3 -/
/-! is it a sum: the law -/
def spSLike2 (K : PySem.W.Frag) : Sp := fun vs H Q _ => ∃ (p : Addr) (P L : Int) (v : V) (b : Bool), vs = [.int P, .int L, v] ∧ PrimeOk P ∧ SThing K P L H p v b ∧ ∀ H', Same H H' → Q (.bl b) H'
section
variable {P : Program} {w : World} {K : PySem.W.Frag} {mg : Str → Option Value} {base : Heap}
theorem sc__law_sum_like : FnScope ["_law_prime_here", "_law_letters", "_law_found", "_law_part"] ["_law_prime_here", "_law_letters", "_law_found"] (defScope s__law_sum_like) := ⟨rfl, rfl, rfl, by decide +kernel, rfl, by decide +kernel, by decide +kernel⟩
set_option maxHeartbeats 1000000 in
theorem ok_slike2 {f : Addr} {fd : FuncData} (F : Fun K "_law_sum_like" "_law_sum_like" s__law_sum_like f fd) (T : Blt mg) (G_law_whole : FnB P w K mg base 1 "_law_whole" (spWhole K)) (G_law_number_like : FnB P w K mg base 2 "_law_number_like" (spLike K)) (G_law_sum : FnB P w K mg base 4 "_law_sum" spLSum) :
    FnOk P w K mg base CX0 5 f fd ["_law_prime_here", "_law_letters", "_law_found"] (spSLike2 K) := by
  refine F.ok sc__law_sum_like (fun vs H Q E h => ?_) (fun cdv A outer s H vs Q E hr h => ?_)
  · obtain ⟨p, P, L, v, b, rfl, _⟩ := h
    rfl
  · obtain ⟨p, P, L, v, b, rfl, hP, hv, q⟩ := h
    refine ⟨_, (pss_cons (ps_if (pt_not (pt_val (kpl_is K T (pv 2) T.list boot_list')))
(pss_one (ps_ret pe_bl))
pss_nil)
(pss_cons (ps_for PassesOwn.never rfl (kpi_list K rfl (pv 2)) (pg_name (i := 3) sc__law_sum_like.nd rfl (Or.inl rfl))
(pss_cons (ps_if (PW.pt (pw_or (pt_not (pt_val (kpl_is K T (pv 3) T.tuple boot_tuple'))) (pw_or (pt_cmpR op_ne (kpl_len K T (pv 3)) pe_int (nomark _)) (pw_or1 (pt_not (pt_val (kpl_is K T (pe_ix (kix_tup K rfl) (pv 3) pe_int (fun _ _ => rfl)) T.tuple boot_tuple')))))))
(pss_one (ps_ret pe_bl))
pss_nil)
(pss_cons (ps_if (PW.pt (pw_or (pt_cmpR op_ne (kpl_len K T (pe_ix (kix_tup K rfl) (pv 3) pe_int (fun _ _ => rfl))) (pv 1) (nomark _)) (pw_or1 (pt_not (pt_val (pe_fn G_law_number_like (hr.mono (by first | decide | exact Nat.le_refl _)) (pa_cons (pv 0) (pa_cons (pe_ix (kix_tup K rfl) (pv 3) pe_int (fun _ _ => rfl)) pa_nil))))))))
(pss_one (ps_ret pe_bl))
pss_nil)
(pss_one (ps_if (pt_not (pt_val (kpl_all K T (by exact pe_comp (N := ["_law_number_here"]) (src := [none]) rfl rfl rfl (by exact (kpi_tup K rfl (pe_ix (kix_tup K rfl) (pv 3) pe_int (fun _ _ => rfl)))) (fun _ _ _ => by exact ⟨by exact (pg_nm (i := 0) nd_5 rfl rfl), pif_nil, by exact (pe_and (pe_fn G_law_whole (hr.mono (by first | decide | exact Nat.le_refl _)) (pa_cons (pv 0) pa_nil)) (pe_one (pe_cmpR op_ge (pv 0) pe_int (nomark _))))⟩)) false)))
(pss_one (ps_ret pe_bl))
pss_nil)))))
(pss_one (ps_ret (pe_cmpR (keqD K rfl hr.units) (pe_fn G_law_sum (hr.mono (by first | decide | exact Nat.le_refl _)) (pa_cons (pv 0) (pa_cons (pv 2) pa_nil))) (pv 2) (nomark _)))))), ?_⟩
    have key : (∃ t, b = false ∧ TyOf K H v t ∧ PySem.W.kitOne K t (.type "list") = some false) ∨ ∃ l xs, v = .ref l ∧ H l = some (.lst xs) ∧ (∀ x ∈ xs, Item K H x) ∧ (∀ x ∈ xs, itemV P L H x = false → b = false) ∧ ((∀ x ∈ xs, itemV P L H x = true) → ∃ ps, PartsR P H xs ps ∧ ps.length ≤ 60 ∧ SumOk P ps ∧ b = canonB ps) := by
      rcases hv with ⟨rfl, t, ty, e⟩ | ⟨rfl, l, xs, rfl, _, hl, hn, hI, y, hy, hyv⟩ | ⟨l, ts, ps, rfl, _, hl, hps, hn, hok, hL, rfl⟩
      · exact .inl ⟨t, rfl, ty, e⟩
      · refine .inr ⟨l, xs, rfl, hl, hI, fun _ _ _ => rfl, fun z => ?_⟩
        rw [z y hy] at hyv
        cases hyv
      · refine .inr ⟨l, ts, rfl, hl, fun x hx => ?_, fun x hx z => ?_, fun _ => ⟨ps, hps, hn, hok, rfl⟩⟩
        · obtain ⟨r, mr, hr⟩ := hps.mem hx
          exact hr.item (L := L) (hok.1 r mr).1 (hok.1 r mr).2 (hL r mr).2.1
        · obtain ⟨r, mr, hr⟩ := hps.mem hx
          rw [hr.itemV (F := K) (hok.1 r mr).1 (hok.1 r mr).2 (hL r mr).1 (hL r mr).2.2] at z
          cases z
    rcases key with ⟨t, rfl, ty, e⟩ | ⟨l, xs, rfl, hl, hI, hbad, hend⟩
    · exact ⟨_, rfl, t, false, ty, e, _, rfl, iteT (q H (Same.refl H))⟩
    refine ⟨_, rfl, _, true, .lst hl, rfl, _, rfl, iteF ?_⟩
    refine ⟨_, rfl, l, rfl, ⟨_, SqL.of hl⟩, for_list (xs := xs) (fun i σ H' => ∃ x3 : Option V, σ = [some (.int P), some (.int L), some (.ref l), x3] ∧ Same H H' ∧ ∀ v ∈ xs.take i, itemV P L H v = true) ?_ ?_ ?_ ?_⟩
    · exact ⟨none, rfl, Same.refl _, fun v hv => by simp at hv⟩
    · rintro i σ H' _ ⟨x3, rfl, sm, _⟩
      exact SqL.of (sm _ _ hl)
    · rintro i v σ H1 hx ⟨x3, rfl, sm, hT⟩
      have mv := List.mem_of_getElem? hx
      have bad : itemV P L H v = false → ∀ H', Same H1 H' → Q (.bl false) H' := fun z H' s' => by
        have z2 := q H' (sm.trans s')
        rw [hbad v mv z] at z2
        exact z2
      have good : itemV P L H v = true → ∀ v ∈ xs.take (i + 1), itemV P L H v = true := fun z u hu => by
        rw [List.take_add_one, hx] at hu
        rcases List.mem_append.mp hu with hu | hu
        · exact hT u hu
        · simp at hu
          subst hu
          exact z
      rcases hI v mv with h | ⟨a, ys, rfl, ha, hn⟩ | ⟨a, u, w, rfl, ha, h⟩
      · obtain ⟨t, ty, e, hn⟩ := h.soft (Soft.of sm)
        exact ⟨_, rfl, t, false, ty, e, _, rfl, iteT (iteT (bad (itemV_no h) H1 (Same.refl _)))⟩
      · have ha1 := sm _ _ ha
        refine ⟨_, rfl, _, true, .tup ha1, rfl, _, rfl, iteF ?_⟩
        refine ⟨_, rfl, a, _, rfl, .inr (SqT.of ha1), rfl, _, rfl, ?_⟩
        rw [show decide (V.int (ys.length : Int) = V.int 2) = false from decide_eq_false fun z => hn (by injection z)]
        exact iteT (iteT (bad (itemV_len ha hn) H1 (Same.refl _)))
      have ha1 := sm _ _ ha
      refine ⟨_, rfl, _, true, .tup ha1, rfl, _, rfl, iteF ?_⟩
      refine ⟨_, rfl, a, _, rfl, .inr (SqT.of ha1), rfl, _, rfl, iteNS rfl ?_⟩
      rcases h with h | ⟨c, es, rfl, hc, hle, hty, hw⟩
      · obtain ⟨t, ty, e, hn⟩ := h.soft (Soft.of sm)
        exact ⟨_, rfl, a, _, _, _, rfl, rfl, SqT.of ha1, rfl, t, false, ty, e, _, rfl, iteT (bad (itemV_no2 ha h) H1 (Same.refl _))⟩
      have hc1 := sm _ _ hc
      have iv := itemV_of (P := P) (L := L) ha hc
      refine ⟨_, rfl, a, _, _, _, rfl, rfl, SqT.of ha1, rfl, _, true, .tup hc1, rfl, _, rfl, iteF ?_⟩
      refine ⟨_, rfl, a, _, _, _, rfl, rfl, SqT.of ha1, rfl, c, _, rfl, .inr (SqT.of hc1), _, rfl, rfl, _, rfl, ?_⟩
      by_cases hL : (es.length : Int) = L
      · refine iteNS (congrArg V.int hL) ?_
        refine ⟨_, rfl, _, rfl, a, _, _, _, rfl, rfl, SqT.of ha1, rfl, P, w, rfl, hP, hw.soft (Soft.of sm), fun H3 s3 => ?_⟩
        rw [numV_soft (Soft.of sm) hw]
        by_cases hnv : numV P H w = true
        · rw [hnv]
          refine ⟨_, rfl, iteF ?_⟩
          have ha3 := s3 _ _ ha1
          have hc3 := s3 _ _ hc1
          have sm3 := sm.trans s3
          refine ⟨_, rfl, a, _, _, _, rfl, rfl, SqT.of ha3, rfl, c, rfl, ⟨_, SqT.of hc3⟩, comp_tup (fun x => .bl (nnI x)) rfl (SqT.of hc3) (Nat.le_of_lt (small1000 hle)) (fun i x H4 R hx4 sm4 hR => ?_) (fun acc4 H4 hacc4 sm4 hl4 => ?_)⟩
          · obtain ⟨t, b, c, ty, h1, h2, e⟩ := (hty x (List.mem_of_getElem? hx4)).same (sm3.trans sm4)
            refine ⟨_, rfl, x, t, b, c, rfl, ty, h1, h2, _, rfl, ?_⟩
            rw [e]
            cases x with
            | int i => exact iteT ⟨_, rfl, _, _, rfl, rfl, hR⟩
            | _ => exact iteF hR
          · have e1 : es.map (fun x => V.bl (nnI x)) = (es.map nnI).map V.bl := by rw [List.map_map]; rfl
            rw [e1] at hl4
            refine ⟨acc4, _, rfl, sqvL (SqL.of hl4), _, rfl, ?_⟩
            rw [List.all_map]
            show if (!(es.all nnI)) = true then _ else _
            rw [hnv, Bool.and_true] at iv
            unfold prodV at iv
            rw [decide_eq_true hL, Bool.true_and] at iv
            by_cases hz : es.all nnI = true
            · rw [hz] at iv ⊢
              exact iteF ⟨_, rfl, sm3.trans sm4, good iv⟩
            · rw [Bool.eq_false_iff.mpr hz] at iv ⊢
              exact iteT (bad iv H4 (s3.trans sm4))
        · rw [Bool.eq_false_iff.mpr hnv, Bool.and_false] at iv
          rw [Bool.eq_false_iff.mpr hnv]
          exact ⟨_, rfl, iteT (bad iv H3 s3)⟩
      · have e0 : (!decide (V.int (es.length : Int) = V.int L)) = true := by
          rw [decide_eq_false (fun z => hL (by injection z))]; rfl
        rw [e0]
        unfold prodV at iv
        rw [decide_eq_false hL, Bool.false_and, Bool.false_and] at iv
        exact iteT (iteT (bad iv H1 (Same.refl _)))
    · rintro σ H1 ⟨x3, rfl, sm, hT⟩
      rw [List.take_length] at hT
      obtain ⟨ps, hps, hn, hok, rfl⟩ := hend hT
      refine ⟨_, rfl, _, rfl, l, P, xs, ps, rfl, hP, sm _ _ hl, hps.mono (fun t xs e => sm _ _ e), hn, hok, fun d rs out H2 nd s2 hd po is => ?_⟩
      refine ⟨_, rfl, dS P out, dS P ps, dr_dS hd po, dr_dS (s2 _ _ (sm _ _ hl)) (hps.mono (fun t xs e => s2 _ _ (sm _ _ e))), shaped_dS _ _, shaped_dS _ _, ?_⟩
      have hB := hP.b
      have okm : ∀ q ∈ acc P ps, OkN P q.2 := acc_ok hB.1 hB.2.2 fun q hq => (hok.1 q hq).1
      rw [eqv_dS2 (fun r hr => okm r (List.mem_filter.mp (is.1.mem_iff.mp hr)).1) (fun r hr => (hok.1 r hr).1), canon_iff (fun r hr => (hok.1 r hr).1) is]
      exact q H2 (sm.trans s2)
end

/-! MARK4 -/
/-! spoilt sums -/
theorem itemV_soft {K : PySem.W.Frag} {P L : Int} {H H' : Hp} {x : V} (s : Soft H H') (h : Item K H x) : itemV P L H' x = itemV P L H x := by
  rcases h with h | ⟨a, xs, rfl, ha, hl⟩ | ⟨a, u, w, rfl, ha, h⟩
  · rw [itemV_no h, itemV_no (h.soft s)]
  · rw [itemV_len ha hl, itemV_len (s.tup ha) hl]
  · rcases h with h | ⟨c, es, rfl, hc, hl, hty, hw⟩
    · rw [itemV_no2 ha h, itemV_no2 (s.tup ha) (h.soft s)]
    · rw [itemV_of ha hc, itemV_of (s.tup ha) (s.tup hc), numV_soft s hw]
theorem SThing.keep {K : PySem.W.Frag} {P L : Int} {H H' : Hp} {p : Addr} {v : V} {b : Bool} (s : Soft H H') (k : ∀ c o, H c = some o → c ≠ p → H' c = some o) (h : SThing K P L H p v b) : SThing K P L H' p v b := by
  rcases h with ⟨rfl, t, ty, e⟩ | ⟨rfl, l, xs, rfl, lp, hl, hn, hI, y, hy, hyv⟩ | ⟨l, ts, ps, rfl, lp, hl, hps, hn, hok, hL, rfl⟩
  · exact .inl ⟨rfl, t, TyOf.soft s ty, e⟩
  · exact .inr (.inl ⟨rfl, l, xs, rfl, lp, k _ _ hl lp, hn, fun x hx => (hI x hx).soft s, y, hy, by rw [itemV_soft s (hI y hy)]; exact hyv⟩)
  · exact .inr (.inr ⟨l, ts, ps, rfl, lp, k _ _ hl lp, hps.mono fun t xs e => s.tup e, hn, hok, hL, rfl⟩)
def STh (K : PySem.W.Frag) (P L : Int) (H : Hp) (p : Addr) (v : V) : Prop := ∃ b, SThing K P L H p v b
theorem STh.same {K : PySem.W.Frag} {P L : Int} {H H' : Hp} {p : Addr} {v : V} (s : Same H H') (h : STh K P L H p v) : STh K P L H' p v := by
  obtain ⟨b, h⟩ := h
  exact ⟨b, h.keep (Soft.of s) fun c o e _ => s c o e⟩
theorem sths_same {K : PySem.W.Frag} {P L : Int} {H H' : Hp} {p : Addr} {xs : List V} (s : Same H H') (h : ∀ x ∈ xs, STh K P L H p x) : ∀ x ∈ xs, STh K P L H' p x := fun x hx => (h x hx).same s
theorem sths_cons {K : PySem.W.Frag} {P L : Int} {H : Hp} {p : Addr} {y : V} {xs : List V} (h : STh K P L H p y) (r : ∀ x ∈ xs, STh K P L H p x) : ∀ x ∈ y :: xs, STh K P L H p x := fun x hx => by
  rcases List.mem_cons.mp hx with z | z
  · subst z; exact h
  · exact r x z
theorem sths_nil {K : PySem.W.Frag} {P L : Int} {H : Hp} {p : Addr} : ∀ x ∈ ([] : List V), STh K P L H p x := fun x hx => by cases hx
theorem sths_append {K : PySem.W.Frag} {P L : Int} {H : Hp} {p : Addr} {xs ys : List V} (h : ∀ x ∈ xs, STh K P L H p x) (hy : ∀ x ∈ ys, STh K P L H p x) : ∀ x ∈ xs ++ ys, STh K P L H p x := fun x hx => (List.mem_append.mp hx).elim (h x) (hy x)
theorem STh.plain {K : PySem.W.Frag} {P L : Int} {H : Hp} {p : Addr} {v : V} (t : Value) (h : TyOf K H v t) (e : PySem.W.kitOne K t (.type "list") = some false) : STh K P L H p v := ⟨false, .inl ⟨rfl, t, h, e⟩⟩
/-- the sum that is spoilt -/
structure One (P L : Int) (H : Hp) (p l : Addr) (ts : List V) (ps : List Mono) : Prop where
  hP : PrimeOk P
  L1 : 1 ≤ L
  L4 : L ≤ 4
  hl : H l = some (.lst ts)
  lp : l ≠ p
  pr : PartsR P H ts ps
  ln : ps.length ≤ 9
  nd : (ps.map (·.1)).Nodup
  ok : ∀ q ∈ ps, OkN P q.2 ∧ Sz 935 q.2 ∧ (q.1.length : Int) = L ∧ ∀ e ∈ q.1, 0 ≤ e
theorem One.same {P L : Int} {H H' : Hp} {p l : Addr} {ts : List V} {ps : List Mono} (o : One P L H p l ts ps) (s : Same H H') : One P L H' p l ts ps := ⟨o.hP, o.L1, o.L4, s _ _ o.hl, o.lp, o.pr.mono fun t xs e => s _ _ e, o.ln, o.nd, o.ok⟩
theorem One.item {K : PySem.W.Frag} {P L : Int} {H : Hp} {p l : Addr} {ts : List V} {ps : List Mono} (o : One P L H p l ts ps) : ∀ x ∈ ts, Item K H x := fun x hx => by
  obtain ⟨r, mr, hr⟩ := o.pr.mem hx
  have z := o.ok r mr
  have h4 := o.L4
  exact hr.item (L := L) z.1 (z.2.1.mono (by decide)) (by have := z.2.2.1; omega)
theorem acc_szC {P : Int} (hP : PrimeOk P) {ps : List Mono} (h : ∀ p ∈ ps, OkN P p.2 ∧ Sz 935 p.2) : ∀ i, i ≤ ps.length → ∀ p ∈ acc P (ps.take i), Sz (936 * ((ps.take i).map (·.1)).count p.1) p.2
  | 0, _, p, hp => by simp [acc] at hp
  | i + 1, hi, p, hp => by
    have hB := hP.b
    obtain ⟨q, eq⟩ : ∃ q, ps[i]? = some q := ⟨_, List.getElem?_eq_getElem (by omega)⟩
    have ih := acc_szC hP h i (by omega)
    have okm : ∀ q ∈ acc P (ps.take i), OkN P q.2 := acc_ok hB.1 hB.2.2 fun q hq => (h q (List.mem_of_mem_take hq)).1
    obtain ⟨oq, zq⟩ := h q (List.mem_of_getElem? eq)
    have e1 : (ps.take (i + 1)).map (·.1) = (ps.take i).map (·.1) ++ [q.1] := by rw [List.take_add_one, eq, List.map_append]; rfl
    rw [acc_take eq] at hp
    rw [e1, List.count_append]
    rcases aput_mem hp with z | z
    · rw [z]
      show Sz (936 * (List.count q.1 ((ps.take i).map (·.1)) + List.count q.1 [q.1])) (addN P ((aval (acc P (ps.take i)) q.1).getD (0, 1)) q.2)
      rw [List.count_singleton_self]
      cases e : aval (acc P (ps.take i)) q.1 with
      | none =>
        show Sz _ (addN P (0, 1) q.2)
        rw [add_zero_l oq]
        exact zq.mono (by omega)
      | some y =>
        have my := aval_mem e
        have sy := ih _ my
        have pos : 0 < List.count q.1 ((ps.take i).map (·.1)) := by
          rw [List.count_pos_iff]
          obtain ⟨r, hr, er⟩ := acc_from _ my
          exact List.mem_map.mpr ⟨r, hr, er⟩
        have sy : Sz (936 * List.count q.1 ((ps.take i).map (·.1))) y := sy
        exact (sz_addN hB.1 hB.2.1 (okm _ my) oq sy zq (by omega)).1.mono (by omega)
    · exact (ih p z).mono (by omega)
theorem sumOk_twice {P : Int} (hP : PrimeOk P) {ps : List Mono} (h : ∀ p ∈ ps, OkN P p.2 ∧ Sz 935 p.2) (hc : ∀ k, (ps.map (·.1)).count k ≤ 2) : SumOk P ps := by
  refine ⟨fun p hp => ⟨(h p hp).1, (h p hp).2.mono (by decide)⟩, fun i p hp => ?_⟩
  have go : ∀ i, i ≤ ps.length → ∀ p ∈ acc P (ps.take i), Sz 1900 p.2 := fun i hi p hp => by
    have z := acc_szC hP h i hi p hp
    have c1 : ((ps.take i).map (·.1)).count p.1 ≤ 2 := Nat.le_trans ((List.Sublist.map _ (List.take_sublist i ps)).count_le _) (hc p.1)
    exact z.mono (by omega)
  by_cases hi : i ≤ ps.length
  · exact go i hi p hp
  · rw [List.take_of_length_le (by omega)] at hp
    exact go ps.length (Nat.le_refl _) p (by rw [List.take_length]; exact hp)
theorem nodup_count {ks : List (List Int)} (h : ks.Nodup) (k : List Int) : ks.count k ≤ 1 := List.nodup_iff_count.mp h k
/-- a list with a bad item -/
theorem bad_list {K : PySem.W.Frag} {P L : Int} {H : Hp} {p z : Addr} {xs : List V} (zp : z ≠ p) (hz : H z = some (.lst xs)) (hn : xs.length ≤ 60) (hI : ∀ x ∈ xs, Item K H x) {y : V} (hy : y ∈ xs) (hv : itemV P L H y = false) : STh K P L H p (.ref z) := ⟨false, .inr (.inl ⟨rfl, z, xs, rfl, zp, hz, hn, hI, y, hy, hv⟩)⟩
/-- a list of parts -/
theorem good_list {K : PySem.W.Frag} {P L : Int} {H : Hp} {p z : Addr} {ts : List V} {ps : List Mono} (zp : z ≠ p) (hz : H z = some (.lst ts)) (hn : ps.length ≤ 60) (hP : PrimeOk P) (L4 : L ≤ 4) (pr : PartsR P H ts ps) (ok : ∀ q ∈ ps, OkN P q.2 ∧ Sz 935 q.2 ∧ (q.1.length : Int) = L ∧ ∀ e ∈ q.1, 0 ≤ e) (hc : ∀ k, (ps.map (·.1)).count k ≤ 2) : STh K P L H p (.ref z) :=
  ⟨_, .inr (.inr ⟨z, ts, ps, rfl, zp, hz, pr, hn, sumOk_twice hP (fun q hq => ⟨(ok q hq).1, (ok q hq).2.1⟩) hc, fun q hq => ⟨(ok q hq).2.2.1, by have := (ok q hq).2.2.1; omega, (ok q hq).2.2.2⟩, rfl⟩)⟩
/-- xs[:i] + [..] + xs[i + 1:] -/
theorem sand {K : PySem.W.Frag} {σ : L2.St} {H : Hp} {Q : VK} {tv ta tb : TE} {tin : TA} {l : Addr} {ts : List V} {i : Nat} (G : List V → Hp → Prop) (hl : H l = some (.lst ts)) (hi : i < ts.length) (hn : ts.length ≤ 20) (hv : ∀ (H : Hp) (Z : VK), Z (.ref l) H → tv σ H Z) (ha : ∀ (H : Hp) (Z : VK), Z (.int (i : Int)) H → ta σ H Z) (hb : ∀ (H : Hp) (Z : VK), Z (.int ((i : Int) + 1)) H → tb σ H Z)
    (hin : ∀ (H1 : Hp) (Z : List V → Hp → Prop), Same H H1 → (∀ xs H2, Same H1 H2 → G xs H2 → Z xs H2) → tin σ H1 Z) (hG : ∀ xs H2 H3, Same H2 H3 → G xs H2 → G xs H3) (hg : ∀ xs H2, G xs H2 → xs.length ≤ 5)
    (hQ : ∀ z xs H', H z = none → Same H H' → G xs H' → H' z = some (.lst (ts.take i ++ xs ++ ts.drop (i + 1))) → Q (.ref z) H') :
    tOp rCat (tOp rCat (tSl (rSlL K) tv tNoPart (tPart ta)) (tLst tin)) (tSl (rSlL K) tv (tPart tb) tNoPart) σ H Q := by
  refine hv _ _ (ha _ _ ⟨_, rfl, l, ts, rfl, SqL.of hl, fun p1 n1 => ?_⟩)
  rw [cut_hi ts i (by omega)]
  have s1 := Same.new (o := .lst (ts.take i)) n1
  have h1 : (upd H p1 (.lst (ts.take i))) p1 = some (.lst (ts.take i)) := upd_same
  generalize upd H p1 (.lst (ts.take i)) = H1 at *
  refine hin _ _ s1 fun xs H2 s2 g2 => ⟨?_, fun p2 n2 => ?_⟩
  · have := hg xs H2 g2
    rw [sizeLine_eq]
    omega
  have lx := hg xs H2 g2
  have s3 := Same.new (o := .lst xs) n2
  have h2 : (upd H2 p2 (.lst xs)) p2 = some (.lst xs) := upd_same
  have g3 := hG _ _ _ s3 g2
  generalize upd H2 p2 (.lst xs) = H3 at *
  refine ⟨p1, p2, _, _, rfl, rfl, s3 _ _ (s2 _ _ h1), h2, ?_, fun p3 n3 => ?_⟩
  · rw [List.length_take, sizeLine_eq]
    omega
  have s4 := Same.new (o := .lst (ts.take i ++ xs)) n3
  have h3 : (upd H3 p3 (.lst (ts.take i ++ xs))) p3 = some (.lst (ts.take i ++ xs)) := upd_same
  have g4 := hG _ _ _ s4 g3
  generalize upd H3 p3 (.lst (ts.take i ++ xs)) = H4 at *
  have sl := ((s1.trans s2).trans s3).trans s4
  refine hv _ _ (hb _ _ ⟨_, rfl, l, ts, rfl, SqL.of (sl _ _ hl), fun p4 n4 => ?_⟩)
  rw [show ((i : Int) + 1) = ((i + 1 : Nat) : Int) by omega, cut_lo ts (i + 1) (by omega)]
  have s5 := Same.new (o := .lst (ts.drop (i + 1))) n4
  have h4 : (upd H4 p4 (.lst (ts.drop (i + 1)))) p4 = some (.lst (ts.drop (i + 1))) := upd_same
  have g5 := hG _ _ _ s5 g4
  generalize upd H4 p4 (.lst (ts.drop (i + 1))) = H5 at *
  refine ⟨p3, p4, _, _, rfl, rfl, s5 _ _ h3, h4, ?_, fun p5 n5 => ?_⟩
  · rw [List.length_append, List.length_take, List.length_drop, sizeLine_eq]
    omega
  have s6 := Same.new (o := .lst (ts.take i ++ xs ++ ts.drop (i + 1))) n5
  exact hQ p5 xs _ ((sl.trans s5).free n5) ((sl.trans s5).trans s6) (hG _ _ _ s6 g5) upd_same
theorem sand_items {K : PySem.W.Frag} {P L : Int} {H : Hp} {p l : Addr} {ts xs : List V} {ps : List Mono} {i : Nat} (o : One P L H p l ts ps) (hx : ∀ x ∈ xs, Item K H x) : ∀ x ∈ ts.take i ++ xs ++ ts.drop (i + 1), Item K H x := fun x hm => by
  rcases List.mem_append.mp hm with hm | hm
  · rcases List.mem_append.mp hm with hm | hm
    · exact o.item x (List.mem_of_mem_take hm)
    · exact hx x hm
  · exact o.item x (List.mem_of_mem_drop hm)
/-- a bad item in the place of a part -/
theorem sand_bad {K : PySem.W.Frag} {P L : Int} {σ : L2.St} {H : Hp} {Q : VK} {tv ta tb : TE} {tin : TA} {p l : Addr} {ts : List V} {ps : List Mono} {i : Nat} {op : HO} (o : One P L H p l ts ps) (hp : H p = some op) (hi : i < ts.length) (hv : ∀ (H : Hp) (Z : VK), Z (.ref l) H → tv σ H Z) (ha : ∀ (H : Hp) (Z : VK), Z (.int (i : Int)) H → ta σ H Z) (hb : ∀ (H : Hp) (Z : VK), Z (.int ((i : Int) + 1)) H → tb σ H Z)
    (hin : ∀ (H1 : Hp) (Z : List V → Hp → Prop), Same H H1 → (∀ x H2, Same H1 H2 → Item K H2 x → itemV P L H2 x = false → Z [x] H2) → tin σ H1 Z)
    (hQ : ∀ z H', H z = none → Same H H' → STh K P L H' p (.ref z) → Q (.ref z) H') :
    tOp rCat (tOp rCat (tSl (rSlL K) tv tNoPart (tPart ta)) (tLst tin)) (tSl (rSlL K) tv (tPart tb) tNoPart) σ H Q := by
  have lt : ts.length = ps.length := Paired.length o.pr
  have l9 := o.ln
  refine sand (fun xs H2 => ∃ x, xs = [x] ∧ Item K H2 x ∧ itemV P L H2 x = false) o.hl hi (by omega) hv ha hb (fun H1 Z s1 hz => hin H1 Z s1 fun x H2 s2 h1 h2 => hz _ _ s2 ⟨x, rfl, h1, h2⟩) ?_ ?_ fun z xs H' nz s' g hz => ?_
  · rintro xs H2 H3 s ⟨x, rfl, h1, h2⟩
    exact ⟨x, rfl, h1.soft (Soft.of s), by rw [itemV_soft (Soft.of s) h1]; exact h2⟩
  · rintro xs H2 ⟨x, rfl, _⟩
    show 1 ≤ 5
    decide
  · obtain ⟨x, rfl, h1, h2⟩ := g
    refine hQ z H' nz s' (bad_list (ne_of_none hp nz).symm hz ?_ (sand_items (o.same s') fun y hy => ?_) (y := x) (by simp) h2)
    · rw [List.length_append, List.length_append, List.length_take, List.length_drop]
      show _ + 1 + _ ≤ 60
      omega
    · rw [List.mem_singleton.mp hy]
      exact h1
theorem One.keep {P L : Int} {H H' : Hp} {p l : Addr} {ts : List V} {ps : List Mono} (o : One P L H p l ts ps) (s : Soft H H') (k : ∀ c o, H c = some o → c ≠ p → H' c = some o) : One P L H' p l ts ps := ⟨o.hP, o.L1, o.L4, k _ _ o.hl o.lp, o.lp, o.pr.mono fun t xs e => s.tup e, o.ln, o.nd, o.ok⟩
/-- in the place of a number: none, or nought -/
def WTh (K : PySem.W.Frag) (P : Int) (H : Hp) (w : V) : Prop := Thing K H w ∧ (numV P H w = true → numP H w = (0, 1))
theorem WTh.soft {K : PySem.W.Frag} {P : Int} {H H' : Hp} {w : V} (s : Soft H H') (h : WTh K P H w) : WTh K P H' w := ⟨h.1.soft s, by rw [numV_soft s h.1, numP_soft s h.1]; exact h.2⟩
theorem WTh.no {K : PySem.W.Frag} {P : Int} {H : Hp} {w : V} (h : Thing K H w) (e : numV P H w = false) : WTh K P H w := ⟨h, fun z => by rw [e] at z; cases z⟩
theorem wths_same {K : PySem.W.Frag} {P : Int} {H H' : Hp} {xs : List V} (s : Same H H') (h : ∀ x ∈ xs, WTh K P H x) : ∀ x ∈ xs, WTh K P H' x := fun x hx => (h x hx).soft (Soft.of s)
theorem wths_cons {K : PySem.W.Frag} {P : Int} {H : Hp} {y : V} {xs : List V} (h : WTh K P H y) (r : ∀ x ∈ xs, WTh K P H x) : ∀ x ∈ y :: xs, WTh K P H x := fun x hx => by
  rcases List.mem_cons.mp hx with z | z
  · subst z; exact h
  · exact r x z
theorem wths_nil {K : PySem.W.Frag} {P : Int} {H : Hp} : ∀ x ∈ ([] : List V), WTh K P H x := fun x hx => by cases hx
theorem ThingT {K : PySem.W.Frag} {H : Hp} {a : Addr} {n d : Int} (h : H a = some (.tup [.int n, .int d])) (hn : n.natAbs < 1000) (hd : d.natAbs < 1000) : Thing K H (.ref a) := ⟨.tup h, .inr ⟨a, _, rfl, h, by show 2 ≤ 1000; decide, typed_ints [n, d], fun i hi => by
  have p3 : (1000 : Nat) < 2 ^ 2000 := Nat.lt_trans (by decide : 1000 < 10 ^ 31) pow31
  have h : i = n ∨ i = d := by
    rcases List.mem_cons.mp hi with z | z
    · injection z with z; exact .inl z
    · rcases List.mem_cons.mp z with z | z
      · injection z with z; exact .inr z
      · cases z
  rcases h with rfl | rfl
  · exact Nat.lt_trans hn p3
  · exact Nat.lt_trans hd p3⟩⟩
theorem ThingL {K : PySem.W.Frag} {H : Hp} {a : Addr} {xs : List V} (h : H a = some (.lst xs)) : Thing K H (.ref a) := ⟨.lst h, .inl ⟨_, .lst h, rfl, fun b e => by injection e with e; subst e; exact ⟨_, h⟩⟩⟩
theorem ThingI {K : PySem.W.Frag} {H : Hp} (i : Int) : Thing K H (.int i) := ⟨.int i, .inl ⟨_, .int i, rfl, fun b e => by cases e⟩⟩
theorem ThingB {K : PySem.W.Frag} {H : Hp} (i : Bool) : Thing K H (.bl i) := ⟨.bl i, .inl ⟨_, .bl i, rfl, fun b e => by cases e⟩⟩
theorem ThingS {K : PySem.W.Frag} {H : Hp} (i : Str) : Thing K H (.str i) := ⟨.str i, .inl ⟨_, .str i, rfl, fun b e => by cases e⟩⟩
theorem ThingN {K : PySem.W.Frag} {H : Hp} : Thing K H .non := ⟨.non, .inl ⟨_, .non, rfl, fun b e => by cases e⟩⟩
theorem numV_tup {P : Int} {H : Hp} {a : Addr} {xs : List V} (h : H a = some (.tup xs)) : numV P H (.ref a) = (decide (P = 0) && pairV xs) := by
  unfold numV
  by_cases h0 : P = 0
  · rw [if_pos h0, fracV_tup h, decide_eq_true h0, Bool.true_and]
  · rw [if_neg h0, decide_eq_false h0]
    rfl
theorem numV_lst {P : Int} {H : Hp} {a : Addr} {xs : List V} (h : H a = some (.lst xs)) : numV P H (.ref a) = false := by
  unfold numV
  split
  · exact fracV_not fun b e => by injection e with e; subst e; exact ⟨_, h⟩
  · rfl
theorem numV_bl {P : Int} {H : Hp} (b : Bool) : numV P H (.bl b) = false := by unfold numV; split <;> rfl
theorem numV_str {P : Int} {H : Hp} (b : Str) : numV P H (.str b) = false := by unfold numV; split <;> rfl
theorem numV_non {P : Int} {H : Hp} : numV P H .non = false := by unfold numV; split <;> rfl
theorem numV_self {P : Int} {H : Hp} : numV P H (.int P) = false := by
  unfold numV
  split
  · rfl
  · show (decide (0 ≤ P) && decide (P < P)) = false
    rw [decide_eq_false (Int.lt_irrefl P), Bool.and_false]
theorem numV_neg {P : Int} {H : Hp} : numV P H (.int (-1)) = false := by
  unfold numV
  split <;> rfl
theorem at_any (xs : List V) {k : Int} (h0 : 0 ≤ k) (h1 : k < (xs.length : Int)) : ∃ z, atI xs k = some z ∧ z ∈ xs := by
  obtain ⟨n, rfl⟩ := Int.eq_ofNat_of_zero_le h0
  have hn : n < xs.length := by omega
  exact ⟨xs[n], atI_nat (List.getElem?_eq_getElem hn), List.getElem_mem hn⟩
theorem paired_take {α β : Type} {R : α → β → Prop} : ∀ {xs : List α} {ys : List β} (n : Nat), Paired R xs ys → Paired R (xs.take n) (ys.take n)
  | _, _, 0, _ => by rw [List.take_zero, List.take_zero]; exact .nil
  | _, _, n + 1, .nil => .nil
  | _, _, n + 1, .cons q r => .cons q (paired_take n r)
theorem paired_drop {α β : Type} {R : α → β → Prop} : ∀ {xs : List α} {ys : List β} (n : Nat), Paired R xs ys → Paired R (xs.drop n) (ys.drop n)
  | _, _, 0, h => h
  | _, _, n + 1, .nil => .nil
  | _, _, n + 1, .cons q r => paired_drop n r
theorem paired_app {α β : Type} {R : α → β → Prop} : ∀ {xs xs' : List α} {ys ys' : List β}, Paired R xs ys → Paired R xs' ys' → Paired R (xs ++ xs') (ys ++ ys')
  | _, _, _, _, .nil, h => h
  | _, _, _, _, .cons q r, h => .cons q (paired_app r h)
theorem paired_rev {α β : Type} {R : α → β → Prop} : ∀ {xs : List α} {ys : List β}, Paired R xs ys → Paired R xs.reverse ys.reverse
  | _, _, .nil => .nil
  | _, _, .cons q r => by
    rw [List.reverse_cons, List.reverse_cons]
    exact paired_app (paired_rev r) (.cons q .nil)
theorem split_at' {α : Type} {xs : List α} {i : Nat} {x : α} (h : xs[i]? = some x) : xs = xs.take i ++ [x] ++ xs.drop (i + 1) := by
  have e : xs.take (i + 1) = xs.take i ++ [x] := by rw [List.take_add_one, h]; rfl
  rw [← e, List.take_append_drop]
/-- what is known of the sum while it is spoilt -/
structure Env11 (K : PySem.W.Frag) (P L : Int) (H : Hp) (p l : Addr) (ts : List V) (ps : List Mono) (a b : Int) (i : Nat) (t c : Addr) (u w : V) (m : Mono) : Prop where
  o : One P L H p l ts ps
  hp : H p = some (.lst [.int a, .int b])
  ht : H t = some (.tup [.ref c, u])
  hc : H c = some (.tup (m.1.map V.int))
  hu : At P H u m.2
  hw : WTh K P H w
  ev : ts[i]? = some (.ref t)
  em : ps[i]? = some m
theorem Env11.same {K : PySem.W.Frag} {P L : Int} {H H' : Hp} {p l : Addr} {ts : List V} {ps : List Mono} {a b : Int} {i : Nat} {t c : Addr} {u w : V} {m : Mono} (e : Env11 K P L H p l ts ps a b i t c u w m) (s : Same H H') : Env11 K P L H' p l ts ps a b i t c u w m := ⟨e.o.same s, s _ _ e.hp, s _ _ e.ht, s _ _ e.hc, e.hu.same s, e.hw.soft (Soft.of s), e.ev, e.em⟩
theorem Env11.thing {K : PySem.W.Frag} {P L : Int} {H : Hp} {p l : Addr} {ts : List V} {ps : List Mono} {a b : Int} {i : Nat} {t c : Addr} {u w : V} {m : Mono} (e : Env11 K P L H p l ts ps a b i t c u w m) : Thing K H u := by
  have om := e.o.ok m (List.mem_of_getElem? e.em)
  exact (e.hu.thing (K := K) om.1 (om.2.1.mono (by decide))).1
/-- the number put out for none, or for nought -/
theorem Env11.none {K : PySem.W.Frag} {P L : Int} {H : Hp} {p l z t1 : Addr} {ts : List V} {ps : List Mono} {a b : Int} {i : Nat} {t c : Addr} {u w : V} {m : Mono} (e : Env11 K P L H p l ts ps a b i t c u w m) (zp : z ≠ p) (h1 : H t1 = some (.tup [.ref c, w])) (hz : H z = some (.lst (ts.take i ++ [.ref t1] ++ ts.drop (i + 1)))) : STh K P L H p (.ref z) := by
  have lt : ts.length = ps.length := Paired.length e.o.pr
  have l9 := e.o.ln
  have L4 := e.o.L4
  have om := e.o.ok m (List.mem_of_getElem? e.em)
  have hB := e.o.hP.b
  by_cases hv : numV P H w = true
  · have z1 := (num_at e.o.hP e.hw.1 hv).1
    rw [e.hw.2 hv] at z1
    have pr : PartsR P H (ts.take i ++ [.ref t1] ++ ts.drop (i + 1)) (ps.take i ++ [(m.1, (0, 1))] ++ ps.drop (i + 1)) := paired_app (paired_app (paired_take i e.o.pr) (.cons ⟨t1, c, w, rfl, h1, e.hc, z1⟩ .nil)) (paired_drop (i + 1) e.o.pr)
    refine good_list zp hz ?_ e.o.hP L4 pr (fun q hq => ?_) fun k => ?_
    · rw [List.length_append, List.length_append, List.length_take, List.length_drop]
      show _ + 1 + _ ≤ 60
      omega
    · rcases List.mem_append.mp hq with hq | hq
      · rcases List.mem_append.mp hq with hq | hq
        · exact e.o.ok q (List.mem_of_mem_take hq)
        · rw [List.mem_singleton.mp hq]
          exact ⟨okN_zero hB.1 hB.2.2, ⟨Nat.pow_pos (by decide), Nat.one_lt_two_pow (by decide)⟩, om.2.2⟩
      · exact e.o.ok q (List.mem_of_mem_drop hq)
    · have ek : (ps.take i ++ [(m.1, ((0 : Int), (1 : Int)))] ++ ps.drop (i + 1)).map (·.1) = ps.map (·.1) := by
        conv => rhs; rw [split_at' e.em]
        rw [List.map_append, List.map_append, List.map_append, List.map_append]
        rfl
      rw [ek]
      exact Nat.le_succ_of_le (nodup_count e.o.nd k)
  · refine bad_list zp hz ?_ (sand_items e.o fun y hy => ?_) (y := .ref t1) (by simp) ?_
    · rw [List.length_append, List.length_append, List.length_take, List.length_drop]
      show _ + 1 + _ ≤ 60
      omega
    · rw [List.mem_singleton.mp hy]
      exact .inr (.inr ⟨t1, _, w, rfl, h1, .inr ⟨c, _, rfl, e.hc, by rw [List.length_map]; have := om.2.2.1; omega, typed_ints _, e.hw.1⟩⟩)
    · rw [itemV_of h1 e.hc, Bool.eq_false_iff.mpr hv, Bool.and_false]
/-- a part twice -/
theorem Env11.twice {K : PySem.W.Frag} {P L : Int} {H : Hp} {p l z : Addr} {ts : List V} {ps : List Mono} {a b : Int} {i : Nat} {t c : Addr} {u w : V} {m : Mono} (e : Env11 K P L H p l ts ps a b i t c u w m) (zp : z ≠ p) (hz : H z = some (.lst (ts.take i ++ [.ref t, .ref t] ++ ts.drop (i + 1)))) : STh K P L H p (.ref z) := by
  have lt : ts.length = ps.length := Paired.length e.o.pr
  have l9 := e.o.ln
  have om := e.o.ok m (List.mem_of_getElem? e.em)
  have pt : PartR P H (.ref t) m := ⟨t, c, u, rfl, e.ht, e.hc, e.hu⟩
  have pr : PartsR P H (ts.take i ++ [.ref t, .ref t] ++ ts.drop (i + 1)) (ps.take i ++ [m, m] ++ ps.drop (i + 1)) := paired_app (paired_app (paired_take i e.o.pr) (.cons pt (.cons pt .nil))) (paired_drop (i + 1) e.o.pr)
  refine good_list zp hz ?_ e.o.hP e.o.L4 pr (fun q hq => ?_) fun k => ?_
  · rw [List.length_append, List.length_append, List.length_take, List.length_drop]
    show _ + 2 + _ ≤ 60
    omega
  · rcases List.mem_append.mp hq with hq | hq
    · rcases List.mem_append.mp hq with hq | hq
      · exact e.o.ok q (List.mem_of_mem_take hq)
      · have : q = m := by
          rcases List.mem_cons.mp hq with z | z
          · exact z
          · exact List.mem_singleton.mp z
        rw [this]
        exact om
    · exact e.o.ok q (List.mem_of_mem_drop hq)
  · have c1 := nodup_count e.o.nd k
    rw [split_at' e.em] at c1
    rw [List.map_append, List.map_append, List.count_append, List.count_append] at c1 ⊢
    have c2 : List.count k (List.map (·.1) [m]) ≤ 1 := by
      show List.count k [m.1] ≤ 1
      rw [List.count_singleton]
      split <;> decide
    have c3 : List.count k (List.map (·.1) [m, m]) = List.count k (List.map (·.1) [m]) + List.count k (List.map (·.1) [m]) := by
      show List.count k ([m.1] ++ [m.1]) = _
      rw [List.count_append]
      rfl
    omega
/-- the sum behind itself turned about -/
theorem Env11.about {K : PySem.W.Frag} {P L : Int} {H : Hp} {p l z : Addr} {ts : List V} {ps : List Mono} {a b : Int} {i : Nat} {t c : Addr} {u w : V} {m : Mono} (e : Env11 K P L H p l ts ps a b i t c u w m) (zp : z ≠ p) (hz : H z = some (.lst (ts.reverse ++ ts))) : STh K P L H p (.ref z) := by
  have l9 := e.o.ln
  refine good_list zp hz ?_ e.o.hP e.o.L4 (paired_app (paired_rev e.o.pr) e.o.pr) (fun q hq => ?_) fun k => ?_
  · rw [List.length_append, List.length_reverse]
    omega
  · rcases List.mem_append.mp hq with hq | hq
    · exact e.o.ok q (List.mem_reverse.mp hq)
    · exact e.o.ok q hq
  · have c1 := nodup_count e.o.nd k
    rw [List.map_append, List.count_append, List.map_reverse, List.count_reverse]
    omega
/-- a tuple whose first part is no product -/
theorem Env11.badT {K : PySem.W.Frag} {P L : Int} {H : Hp} {p l t2 c2 : Addr} {ts es : List V} {ps : List Mono} {a b : Int} {i : Nat} {t c : Addr} {u w : V} {m : Mono} (e : Env11 K P L H p l ts ps a b i t c u w m) (h2 : H t2 = some (.tup [.ref c2, u])) (hc : H c2 = some (.tup es)) (hl : es.length ≤ 1000) (hty : ∀ x ∈ es, Typed K H x) (hv : prodV es L = false) : Item K H (.ref t2) ∧ itemV P L H (.ref t2) = false :=
  ⟨.inr (.inr ⟨t2, _, u, rfl, h2, .inr ⟨c2, es, rfl, hc, hl, hty, e.thing⟩⟩), by rw [itemV_of h2 hc, hv, Bool.false_and]⟩
theorem sIx_one {n : Nat} (h : 1 ≤ n) : ¬ HT.sIx n 0 (some 1) = 0 := by
  unfold HT.sIx
  have e1 : ¬ ((1 : Int) < 0) := by decide
  simp [e1]
  omega
def spSpoilt (K : PySem.W.Frag) : Sp := fun vs H Q _ => ∃ (l p : Addr) (P L a b : Int) (k : Nat) (ts : List V) (ps : List Mono), vs = [.int P, .ref l, .ref p] ∧ One P L H p l ts ps ∧ ps ≠ [] ∧ H p = some (.lst [.int a, .int b]) ∧ BagOk a b k ∧ k ≤ 600000 ∧
  ∀ (v : V) (t : Bool) (a' b' : Int) (H' : Hp), SThing K P L H' p v t → H' p = some (.lst [.int a', .int b']) → BagOk a' b' (k + 3) → (∀ c o, H c = some o → c ≠ p → H' c = some o) → Q v H'
section
variable {P : Program} {w : World} {K : PySem.W.Frag} {mg : Str → Option Value} {base : Heap}
theorem sc__law_spoilt : FnScope ["_law_prime_here", "_law_one", "_law_bag_here", "_law_at", "_law_product", "_law_number_here", "_law_none", "_law_some"] ["_law_prime_here", "_law_one", "_law_bag_here"] (defScope s__law_spoilt) := ⟨rfl, rfl, rfl, by decide +kernel, rfl, by decide +kernel, by decide +kernel⟩
set_option maxHeartbeats 4000000 in
theorem ok_spoilt {f : Addr} {fd : FuncData} (F : Fun K "_law_spoilt" "_law_spoilt" s__law_spoilt f fd) (T : Blt mg) (G_law_take : FnB P w K mg base 1 "_law_take" spTake) (G_law_nought : FnB P w K mg base 1 "_law_nought" spNought) : FnOk P w K mg base CX0 2 f fd ["_law_prime_here", "_law_one", "_law_bag_here"] (spSpoilt K) := by
  refine F.ok sc__law_spoilt (fun vs H Q E h => ?_) (fun cdv A outer s H vs Q E hr h => ?_)
  · obtain ⟨l, p, P, L, a, b, k, ts, ps, rfl, _⟩ := h
    rfl
  · obtain ⟨l, p, P, L, a, b, k, ts, ps, rfl, o, hne, hp, hb, hk, q⟩ := h
    have lt : ts.length = ps.length := Paired.length o.pr
    have l1 : 1 ≤ ps.length := by
      cases ps with
      | nil => exact absurd rfl hne
      | cons x r => rw [List.length_cons]; omega
    have l9 := o.ln
    refine ⟨_, (pss_cons (ps_set (i := 3) sc__law_spoilt.nd rfl (Or.inl rfl) (pe_fn G_law_take (hr.mono (by first | decide | exact Nat.le_refl _)) (pa_cons (pv 2) (pa_cons (kpl_len K T (pv 1)) pa_nil))))
(pss_cons (ps_asg (pe_ix (kix_list K rfl) (pv 1) (pv 3) (fun _ _ => rfl)) (pg_pair K (i := 4) (j := 5) rfl rfl sc__law_spoilt.nd rfl rfl rfl rfl))
(pss_cons (ps_set (i := 6) sc__law_spoilt.nd rfl (Or.inl rfl) (pe_ix (kix_list K rfl) (pe_lst (pa_cons (pe_fn G_law_nought (hr.mono (by first | decide | exact Nat.le_refl _)) (pa_cons (pv 0) pa_nil)) (pa_cons pe_bl (pa_cons pe_non (pa_cons pe_str (pa_cons (pe_lst (pa_cons pe_int (pa_cons pe_int pa_nil))) (pa_cons (pv 0) (pa_cons (pe_un un_neg pe_int) (pa_cons (pe_tup (pa_cons pe_int (pa_cons pe_int pa_nil))) (pa_cons (pe_tup (pa_cons pe_int (pa_cons (pe_un un_neg pe_int) pa_nil))) (pa_cons (pe_tup (pa_cons pe_int (pa_cons pe_int pa_nil))) pa_nil))))))))))) (pe_fn G_law_take (hr.mono (by first | decide | exact Nat.le_refl _)) (pa_cons (pv 2) (pa_cons pe_int pa_nil))) (fun _ _ => rfl)))
(pss_cons (ps_set (i := 7) sc__law_spoilt.nd rfl (Or.inl rfl) (pe_lst (pa_cons (pe_op op_cat (pe_op op_cat (pe_slice (ksl_list K rfl) (pv 1) po_none (po_some (pv 3))) (pe_lst (pa_cons (pe_tup (pa_cons (pv 4) (pa_cons (pv 6) pa_nil))) pa_nil))) (pe_slice (ksl_list K rfl) (pv 1) (po_some (pe_op op_add (pv 3) pe_int)) po_none)) (pa_cons (pe_op op_cat (pe_op op_cat (pe_slice (ksl_list K rfl) (pv 1) po_none (po_some (pv 3))) (pe_lst (pa_cons (pe_ix (kix_list K rfl) (pv 1) (pv 3) (fun _ _ => rfl)) (pa_cons (pe_ix (kix_list K rfl) (pv 1) (pv 3) (fun _ _ => rfl)) pa_nil)))) (pe_slice (ksl_list K rfl) (pv 1) (po_some (pe_op op_add (pv 3) pe_int)) po_none)) (pa_cons (kpl_tuple K T (pv 1)) pa_nil)))))
(pss_cons (ps_set (i := 7) sc__law_spoilt.nd rfl (Or.inl rfl) (pe_op op_cat (pv 7) (pe_lst (pa_cons (pe_op op_cat (pe_rev (K := K) rfl (pv 1) (po_some (pe_un un_neg pe_int))) (pv 1)) (pa_cons (pe_op op_cat (pe_op op_cat (pe_slice (ksl_list K rfl) (pv 1) po_none (po_some (pv 3))) (pe_lst (pa_cons (pe_tup (pa_cons (pe_op op_catH (pv 4) (pe_tup (pa_cons pe_int pa_nil))) (pa_cons (pv 5) pa_nil))) pa_nil))) (pe_slice (ksl_list K rfl) (pv 1) (po_some (pe_op op_add (pv 3) pe_int)) po_none)) (pa_cons (pe_op op_cat (pv 1) (pe_lst (pa_cons pe_non pa_nil))) (pa_cons pe_non (pa_cons pe_str pa_nil))))))))
(pss_cons (ps_set (i := 7) sc__law_spoilt.nd rfl (Or.inl rfl) (pe_op op_cat (pv 7) (pe_lst (pa_cons (pe_op op_cat (pe_op op_cat (pe_slice (ksl_list K rfl) (pv 1) po_none (po_some (pv 3))) (pe_lst (pa_cons (pe_lst (pa_cons (pv 4) (pa_cons (pv 5) pa_nil))) pa_nil))) (pe_slice (ksl_list K rfl) (pv 1) (po_some (pe_op op_add (pv 3) pe_int)) po_none)) (pa_cons (pe_op op_cat (pe_op op_cat (pe_slice (ksl_list K rfl) (pv 1) po_none (po_some (pv 3))) (pe_lst (pa_cons (pe_tup (pa_cons (kpl_list K T (pv 4)) (pa_cons (pv 5) pa_nil))) pa_nil))) (pe_slice (ksl_list K rfl) (pv 1) (po_some (pe_op op_add (pv 3) pe_int)) po_none)) pa_nil)))))
(pss_cons (ps_set (i := 7) sc__law_spoilt.nd rfl (Or.inl rfl) (pe_op op_cat (pv 7) (pe_lst (pa_cons (pe_op op_cat (pe_op op_cat (pe_slice (ksl_list K rfl) (pv 1) po_none (po_some (pv 3))) (pe_lst (pa_cons (pe_tup (pa_cons (pv 4) (pa_cons (pv 5) (pa_cons (pv 5) pa_nil)))) pa_nil))) (pe_slice (ksl_list K rfl) (pv 1) (po_some (pe_op op_add (pv 3) pe_int)) po_none)) (pa_cons (pe_op op_cat (pe_op op_cat (pe_slice (ksl_list K rfl) (pv 1) po_none (po_some (pv 3))) (pe_lst (pa_cons (pe_tup (pa_cons (pv 4) pa_nil)) pa_nil))) (pe_slice (ksl_list K rfl) (pv 1) (po_some (pe_op op_add (pv 3) pe_int)) po_none)) pa_nil)))))
(pss_cons (ps_set (i := 7) sc__law_spoilt.nd rfl (Or.inl rfl) (pe_op op_cat (pv 7) (pe_lst (pa_cons (pe_op op_cat (pe_op op_cat (pe_slice (ksl_list K rfl) (pv 1) po_none (po_some (pv 3))) (pe_lst (pa_cons (pe_tup (pa_cons (pe_op op_catH (pe_tup (pa_cons pe_bl pa_nil)) (pe_slice (ksl_tup K rfl) (pv 4) (po_some pe_int) po_none)) (pa_cons (pv 5) pa_nil))) pa_nil))) (pe_slice (ksl_list K rfl) (pv 1) (po_some (pe_op op_add (pv 3) pe_int)) po_none)) (pa_cons pe_int pa_nil)))))
(pss_one (ps_ret (pe_ix (kix_list K rfl) (pv 7) (pe_fn G_law_take (hr.mono (by first | decide | exact Nat.le_refl _)) (pa_cons (pv 2) (pa_cons (kpl_len K T (pv 7)) pa_nil))) (fun _ _ => rfl)))))))))))), ?_⟩
    refine ⟨_, rfl, _, rfl, l, ts, rfl, .inl (SqL.of o.hl), p, a, b, _, k, rfl, hp, hb, by omega, by omega, smallAbs (by omega) (by omega), fun r1 a1 b1 r10 r11 hb1 => ?_⟩
    have k1 : ∀ c o, H c = some o → c ≠ p → upd H p (.lst [.int a1, .int b1]) c = some o := fun c o e hc => by rw [upd_ne hc]; exact e
    have hp1 : (upd H p (.lst [.int a1, .int b1])) p = some (.lst [.int a1, .int b1]) := upd_same
    have o1 := o.keep (Soft.but hp hp1 k1) k1
    clear o
    generalize upd H p (.lst [.int a1, .int b1]) = H1 at *
    obtain ⟨i, rfl⟩ := Int.eq_ofNat_of_zero_le r10
    have hi : i < ts.length := by omega
    obtain ⟨v, ev⟩ : ∃ v, ts[i]? = some v := ⟨_, List.getElem?_eq_getElem hi⟩
    obtain ⟨m, em, hm⟩ := o1.pr.at_ ev
    obtain ⟨t, c, u, rfl, ht, hc, hu⟩ := id hm
    refine ⟨_, rfl, _, rfl, l, ts, _, _, rfl, rfl, SqL.of o1.hl, atI_nat ev, t, _, rfl, SqT.of ht, rfl, _, _, rfl, _, _, rfl, rfl, ?_⟩
    refine ⟨_, rfl, P, rfl, o1.hP, fun r2 H2 s2 a2 => ?_⟩
    refine ⟨(by show 2 ≤ sizeLine; decide), fun l3 n3 => ?_⟩
    have s3 := Same.new (o := .lst [.int 1, .int 1]) n3
    have h3 : (upd H2 l3 (.lst [.int 1, .int 1])) l3 = some (.lst [.int 1, .int 1]) := upd_same
    generalize upd H2 l3 (.lst [.int 1, .int 1]) = H3 at *
    refine ⟨_, rfl, 1, rfl, (by show 2 ≤ sizeLine; decide), fun t4 n4 => ?_⟩
    have s4 := Same.new (o := .tup [.int 2, .int 2]) n4
    have h4 : (upd H3 t4 (.tup [.int 2, .int 2])) t4 = some (.tup [.int 2, .int 2]) := upd_same
    generalize upd H3 t4 (.tup [.int 2, .int 2]) = H4 at *
    refine ⟨1, rfl, (by show 2 ≤ sizeLine; decide), fun t5 n5 => ?_⟩
    have s5 := Same.new (o := .tup [.int 1, .int (-1)]) n5
    have h5 : (upd H4 t5 (.tup [.int 1, .int (-1)])) t5 = some (.tup [.int 1, .int (-1)]) := upd_same
    generalize upd H4 t5 (.tup [.int 1, .int (-1)]) = H5 at *
    refine ⟨(by show 2 ≤ sizeLine; decide), fun t6 n6 => ?_⟩
    have s6 := Same.new (o := .tup [.int 0, .int 1]) n6
    have h6 : (upd H5 t6 (.tup [.int 0, .int 1])) t6 = some (.tup [.int 0, .int 1]) := upd_same
    generalize upd H5 t6 (.tup [.int 0, .int 1]) = H6 at *
    refine ⟨(by show 10 ≤ sizeLine; decide), fun l7 n7 => ?_⟩
    have hB := o1.hP.b
    have s26 := ((s3.trans s4).trans s5).trans s6
    have W6 : ∀ x ∈ [r2, .bl true, .non, .str "1", .ref l3, .int P, .int (-1), .ref t4, .ref t5, .ref t6], WTh K P H6 x := by
      have a6 : At P H6 r2 (0, 1) := a2.same s26
      refine wths_cons ⟨(a6.thing (K := K) (okN_zero hB.1 hB.2.2) sz_01).1, fun _ => numP_at a6⟩ (wths_cons (.no (ThingB _) (numV_bl _)) (wths_cons (.no ThingN numV_non) (wths_cons (.no (ThingS _) (numV_str _)) (wths_cons (.no (ThingL (((s4.trans s5).trans s6) _ _ h3)) (numV_lst (((s4.trans s5).trans s6) _ _ h3)))
        (wths_cons (.no (ThingI _) numV_self) (wths_cons (.no (ThingI _) numV_neg) (wths_cons (.no (ThingT ((s5.trans s6) _ _ h4) (by decide) (by decide)) (by rw [numV_tup ((s5.trans s6) _ _ h4)]; exact Bool.and_false _)) (wths_cons (.no (ThingT (s6 _ _ h5) (by decide) (by decide)) (by rw [numV_tup (s6 _ _ h5)]; exact Bool.and_false _)) (wths_cons ⟨ThingT h6 (by decide) (by decide), fun _ => by unfold numP; simp only [h6]⟩ wths_nil)))))))))
    have e7 : ([r2, .bl true, .non, .str "1", .ref l3, .int P, .int (-1), .ref t4, .ref t5, .ref t6] : List V).length = 10 := rfl
    generalize ([r2, .bl true, .non, .str "1", .ref l3, .int P, .int (-1), .ref t4, .ref t5, .ref t6] : List V) = ws at *
    have s7 := Same.new (o := .lst ws) n7
    have h7 : (upd H6 l7 (.lst ws)) l7 = some (.lst ws) := upd_same
    generalize upd H6 l7 (.lst ws) = H7 at *
    have s17 := (s2.trans s26).trans s7
    have hp7 := s17 _ _ hp1
    have l7p : l7 ≠ p := (ne_of_none ((s2.trans s26) _ _ hp1) n7).symm
    refine ⟨_, rfl, p, a1, b1, 10, k + 1, rfl, hp7, hb1, by omega, by decide, smallAbs (by decide) (by decide), fun r8 a8 b8 r80 r81 hb8 => ?_⟩
    have k8 : ∀ c o, H7 c = some o → c ≠ p → upd H7 p (.lst [.int a8, .int b8]) c = some o := fun c o e hc => by rw [upd_ne hc]; exact e
    have hp8 : (upd H7 p (.lst [.int a8, .int b8])) p = some (.lst [.int a8, .int b8]) := upd_same
    obtain ⟨w, hat, hw⟩ := at_any ws r80 (by rw [e7]; exact r81)
    have sf8 := Soft.but hp7 hp8 k8
    have o8 := (o1.same s17).keep sf8 k8
    have w8 := (wths_same s7 W6 w hw).soft sf8
    have h78 := k8 _ _ h7 l7p
    have ht8 := sf8.tup (s17 _ _ ht)
    have hc8 := sf8.tup (s17 _ _ hc)
    have hu8 : At P (upd H7 p (.lst [.int a8, .int b8])) u m.2 := (hu.same s17).mono fun t xs e => sf8.tup e
    have k18 : ∀ c o, H c = some o → c ≠ p → upd H7 p (.lst [.int a8, .int b8]) c = some o := fun c o e hc => k8 c o (s17 _ _ (k1 c o e hc)) hc
    generalize upd H7 p (.lst [.int a8, .int b8]) = H8 at *
    refine ⟨l7, ws, r8, w, rfl, rfl, SqL.of h78, hat, ?_⟩
    clear h78 hat hw sf8 k8 W6 a2 h3 h4 h5 h6 h7 n3 n4 n5 n6 n7 s2 s3 s4 s5 s6 s7 s17 s26 hp7 o1 ht hc hu hm k1 hp1
    have mm : m ∈ ps := List.mem_of_getElem? em
    have om := o8.ok m mm
    have e8 : Env11 K P L H8 p l ts ps a8 b8 i t c u w m := ⟨o8, hp8, ht8, hc8, hu8, w8, ev, em⟩
    clear o8 ht8 hc8 hu8 w8
    refine sand (K := K) (i := i) (tv := tVar 1) (ta := tVar 3) (fun xs H2 => ∃ t1, xs = [.ref t1] ∧ H2 t1 = some (.tup [.ref c, w])) e8.o.hl hi (by omega) (fun H Z z => ⟨_, rfl, z⟩) (fun H Z z => ⟨_, rfl, z⟩) (fun H Z z => ⟨_, rfl, _, _, rfl, rfl, z⟩) (fun H1 Z s1 hz => ?_) ?_ ?_ fun z9 xs H9 n9 s9 g9 h9 => ?_
    · exact ⟨_, rfl, _, rfl, (by show 2 ≤ sizeLine; decide), fun t9 n9 => hz _ _ (Same.new n9) ⟨t9, rfl, upd_same⟩⟩
    · rintro xs H2 H3 s ⟨t1, rfl, h⟩
      exact ⟨t1, rfl, s _ _ h⟩
    · rintro xs H2 ⟨t1, rfl, h⟩
      show 1 ≤ 5
      decide
    obtain ⟨t1, rfl, g9⟩ := g9
    have e9 := e8.same s9
    have T9 := e9.none (ne_of_none hp8 n9).symm g9 h9
    clear h9 g9 n9
    refine sand (K := K) (i := i) (tv := tVar 1) (ta := tVar 3) (fun xs H2 => xs = [.ref t, .ref t]) e9.o.hl hi (by omega) (fun H Z z => ⟨_, rfl, z⟩) (fun H Z z => ⟨_, rfl, z⟩) (fun H Z z => ⟨_, rfl, _, _, rfl, rfl, z⟩) (fun H1 Z s1 hz => ?_) (fun _ _ _ _ z => z) ?_ fun z10 xs H10 n10 s10 g10 h10 => ?_
    · have hl1 := SqL.of (K := K) (s1 _ _ e9.o.hl)
      exact ⟨_, rfl, _, rfl, l, ts, _, _, rfl, rfl, hl1, atI_nat ev, _, rfl, _, rfl, l, ts, _, _, rfl, rfl, hl1, atI_nat ev, hz _ _ (Same.refl _) rfl⟩
    · rintro xs H2 rfl
      show 2 ≤ 5
      decide
    subst g10
    have e10 := e9.same s10
    have T10 := e10.twice (ne_of_none e9.hp n10).symm h10
    clear h10 n10
    refine ⟨_, rfl, l, ts, rfl, SqL.of e10.o.hl, fun z11 n11 => ?_⟩
    have s11 := Same.new (o := .tup ts) n11
    have h11 : (upd H10 z11 (.tup ts)) z11 = some (.tup ts) := upd_same
    have e11 := e10.same s11
    generalize upd H10 z11 (.tup ts) = H11 at *
    refine ⟨(by show 3 ≤ sizeLine; decide), fun l12 n12 => ?_⟩
    have Ts : ∀ x ∈ [V.ref z9, .ref z10, .ref z11], STh K P L H11 p x := sths_cons (T9.same (s10.trans s11)) (sths_cons (T10.same s11) (sths_cons (STh.plain _ (.tup h11) rfl) sths_nil))
    have s12 := Same.new (o := .lst [.ref z9, .ref z10, .ref z11]) n12
    have h12 : (upd H11 l12 (.lst [.ref z9, .ref z10, .ref z11])) l12 = some (.lst [.ref z9, .ref z10, .ref z11]) := upd_same
    have e12 := e11.same s12
    generalize upd H11 l12 (.lst [.ref z9, .ref z10, .ref z11]) = H12 at *
    have Ts := sths_same s12 Ts
    have k12 : ∀ c o, H c = some o → c ≠ p → H12 c = some o := fun c o e hc => s12 _ _ (s11 _ _ (s10 _ _ (s9 _ _ (k18 c o e hc))))
    clear k18 s9 s10 s11 s12 n11 n12 h11 e8 e9 e10 e11 T9 T10
    have hx12 : ([V.ref z9, .ref z10, .ref z11] : List V).length = 3 := rfl
    generalize ([V.ref z9, .ref z10, .ref z11] : List V) = xs12 at *
    have lm : (m.1.map V.int).length ≤ 4 := by rw [List.length_map]; have := om.2.2.1; have := e12.o.L4; omega
    refine ⟨_, rfl, _, rfl, 1, rfl, _, rfl, rfl, l, ts, rfl, SqL.of e12.o.hl, fun z13 n13 => ?_⟩
    have s13 := Same.new (o := .lst ts.reverse) n13
    have h13 : (upd H12 z13 (.lst ts.reverse)) z13 = some (.lst ts.reverse) := upd_same
    have e13 := e12.same s13
    generalize upd H12 z13 (.lst ts.reverse) = H13 at *
    refine ⟨_, rfl, z13, l, _, _, rfl, rfl, h13, e13.o.hl, (by rw [List.length_reverse, sizeLine_eq]; omega), fun z14 n14 => ?_⟩
    have s14 := Same.new (o := .lst (ts.reverse ++ ts)) n14
    have h14 : (upd H13 z14 (.lst (ts.reverse ++ ts))) z14 = some (.lst (ts.reverse ++ ts)) := upd_same
    have e14 := e13.same s14
    generalize upd H13 z14 (.lst (ts.reverse ++ ts)) = H14 at *
    have T14 := e14.about (ne_of_none e13.hp n14).symm h14
    refine sand_bad (K := K) (i := i) (tv := tVar 1) (ta := tVar 3) e14.o e14.hp hi (fun H Z z => ⟨_, rfl, z⟩) (fun H Z z => ⟨_, rfl, z⟩) (fun H Z z => ⟨_, rfl, _, _, rfl, rfl, z⟩) (fun H1 Z s1 hz => ?_) fun z15 H15 n15 s15 T15 => ?_
    · refine ⟨_, rfl, (by show 1 ≤ sizeLine; decide), fun t0 n0 => ?_⟩
      have e1 := (e14.same s1).same (Same.new (o := .tup [.int 0]) n0)
      refine ⟨c, t0, _, _, rfl, rfl, e1.hc, upd_same, (by rw [sizeLine_eq]; show _ + 1 ≤ _; omega), fun c2 H2 s2 hc2 => ?_⟩
      have e2 := e1.same s2
      refine ⟨_, rfl, (by show 2 ≤ sizeLine; decide), fun t2 n2 => ?_⟩
      have s3 := Same.new (o := .tup [.ref c2, u]) n2
      have e3 := e2.same s3
      have hes : m.1.map V.int ++ [V.int 0] = (m.1 ++ [0]).map V.int := by rw [List.map_append]; rfl
      rw [hes] at hc2
      obtain ⟨b1, b2⟩ := e3.badT upd_same (s3 _ _ hc2) (by rw [List.length_map, List.length_append]; rw [List.length_map] at lm; show _ + 1 ≤ 1000; omega) (typed_ints _) (by
        unfold prodV
        rw [decide_eq_false, Bool.false_and]
        rw [List.length_map, List.length_append]
        have := om.2.2.1
        show ¬ (((m.1.length + 1 : Nat) : Int) = L)
        omega)
      exact hz _ _ (((Same.new n0).trans s2).trans s3) b1 b2
    have e15 := e14.same s15
    refine ⟨_, rfl, (by show 1 ≤ sizeLine; decide), fun l16 n16 => ?_⟩
    have s16 := Same.new (o := .lst [.non]) n16
    have h16 : (upd H15 l16 (.lst [.non])) l16 = some (.lst [.non]) := upd_same
    have e16 := e15.same s16
    generalize upd H15 l16 (.lst [.non]) = H16 at *
    refine ⟨l, l16, _, _, rfl, rfl, e16.o.hl, h16, (by rw [sizeLine_eq]; show _ + 1 ≤ _; omega), fun z17 n17 => ?_⟩
    have s17 := Same.new (o := .lst (ts ++ [.non])) n17
    have h17 : (upd H16 z17 (.lst (ts ++ [.non]))) z17 = some (.lst (ts ++ [.non])) := upd_same
    have e17 := e16.same s17
    generalize upd H16 z17 (.lst (ts ++ [.non])) = H17 at *
    have hno : NoTup K H17 .non := ⟨_, .non, rfl, fun a e => by cases e⟩
    have T17 : STh K P L H17 p (.ref z17) := bad_list (ne_of_none e16.hp n17).symm h17 (by rw [List.length_append]; show _ + 1 ≤ 60; omega) (fun x hx => by
      rcases List.mem_append.mp hx with hx | hx
      · exact e17.o.item x hx
      · rw [List.mem_singleton.mp hx]
        exact .inl hno) (y := .non) (by simp) (itemV_no hno)
    refine ⟨(by show 5 ≤ sizeLine; decide), fun l18 n18 => ?_⟩
    have s1317 := (((s13.trans s14).trans s15).trans s16).trans s17
    have Ts := sths_append (sths_same s1317 Ts) (sths_cons (T14.same ((s15.trans s16).trans s17)) (sths_cons (T15.same (s16.trans s17)) (sths_cons T17 (sths_cons (STh.plain (v := .non) _ .non rfl) (sths_cons (STh.plain (v := .str "0") _ (.str _) rfl) sths_nil)))))
    have s18 := Same.new (o := .lst [.ref z14, .ref z15, .ref z17, .non, .str "0"]) n18
    have h18 : (upd H17 l18 (.lst [.ref z14, .ref z15, .ref z17, .non, .str "0"])) l18 = some (.lst [.ref z14, .ref z15, .ref z17, .non, .str "0"]) := upd_same
    have e18 := e17.same s18
    generalize upd H17 l18 (.lst [.ref z14, .ref z15, .ref z17, .non, .str "0"]) = H18 at *
    refine ⟨l12, l18, _, _, rfl, rfl, (s1317.trans s18) _ _ h12, h18, (by rw [hx12, sizeLine_eq]; show 3 + 5 ≤ _; omega), fun l19 n19 => ?_⟩
    have hx19 : (xs12 ++ [V.ref z14, .ref z15, .ref z17, .non, .str "0"]).length = 8 := by rw [List.length_append, hx12]; rfl
    have s19 := Same.new (o := .lst (xs12 ++ [.ref z14, .ref z15, .ref z17, .non, .str "0"])) n19
    have h19 : (upd H18 l19 (.lst (xs12 ++ [.ref z14, .ref z15, .ref z17, .non, .str "0"]))) l19 = some (.lst (xs12 ++ [.ref z14, .ref z15, .ref z17, .non, .str "0"])) := upd_same
    have e19 := e18.same s19
    generalize upd H18 l19 (.lst (xs12 ++ [.ref z14, .ref z15, .ref z17, .non, .str "0"])) = H19 at *
    have Ts := sths_same (s18.trans s19) Ts
    generalize (xs12 ++ [V.ref z14, .ref z15, .ref z17, .non, .str "0"] : List V) = xs19 at *
    have k19 : ∀ c o, H c = some o → c ≠ p → H19 c = some o := fun c o e hc => s19 _ _ (s18 _ _ (s1317 _ _ (k12 c o e hc)))
    clear k12 s13 s14 s15 s16 s17 s18 s19 s1317 e12 e13 e14 e15 e16 e17 e18 T14 T15 T17 hno h12 h13 h14 h16 h17 h18 n13 n14 n15 n16 n17 n18 n19
    refine ⟨_, rfl, ?_⟩
    refine sand_bad (K := K) (i := i) (tv := tVar 1) (ta := tVar 3) e19.o e19.hp hi (fun H Z z => ⟨_, rfl, z⟩) (fun H Z z => ⟨_, rfl, z⟩) (fun H Z z => ⟨_, rfl, _, _, rfl, rfl, z⟩) (fun H1 Z s1 hz => ?_) fun z20 H20 n20 s20 T20 => ?_
    · refine ⟨_, rfl, _, rfl, (by show 2 ≤ sizeLine; decide), fun t2 n2 => ?_⟩
      have hno : NoTup K (upd H1 t2 (.lst [.ref c, u])) (.ref t2) := ⟨_, .lst upd_same, rfl, fun a e => by injection e with e; subst e; exact ⟨_, upd_same⟩⟩
      exact hz _ _ (Same.new n2) (.inl hno) (itemV_no hno)
    have e20 := e19.same s20
    refine sand_bad (K := K) (i := i) (tv := tVar 1) (ta := tVar 3) e20.o e20.hp hi (fun H Z z => ⟨_, rfl, z⟩) (fun H Z z => ⟨_, rfl, z⟩) (fun H Z z => ⟨_, rfl, _, _, rfl, rfl, z⟩) (fun H1 Z s1 hz => ?_) fun z21 H21 n21 s21 T21 => ?_
    · have e1 := e20.same s1
      refine ⟨_, rfl, c, _, rfl, .inr (SqT.of e1.hc), fun l2 n2 => ?_⟩
      refine ⟨_, rfl, (by show 2 ≤ sizeLine; decide), fun t2 n3 => ?_⟩
      have s3 := Same.new (o := .tup [.ref l2, u]) n3
      have hl2 := s3 _ _ (show (upd H1 l2 (.lst (m.1.map V.int))) l2 = some (.lst (m.1.map V.int)) from upd_same)
      have hno : NoTup K (upd (upd H1 l2 (.lst (m.1.map V.int))) t2 (.tup [.ref l2, u])) (.ref l2) := ⟨_, .lst hl2, rfl, fun a e => by injection e with e; subst e; exact ⟨_, hl2⟩⟩
      exact hz _ _ ((Same.new n2).trans s3) (.inr (.inr ⟨t2, _, u, rfl, upd_same, .inl hno⟩)) (itemV_no2 upd_same hno)
    have e21 := e20.same s21
    refine ⟨(by show 2 ≤ sizeLine; decide), fun l22 n22 => ?_⟩
    have Ts := sths_append (sths_same (s20.trans s21) Ts) (sths_cons (T20.same s21) (sths_cons T21 sths_nil))
    have s22 := Same.new (o := .lst [.ref z20, .ref z21]) n22
    have h22 : (upd H21 l22 (.lst [.ref z20, .ref z21])) l22 = some (.lst [.ref z20, .ref z21]) := upd_same
    have e22 := e21.same s22
    generalize upd H21 l22 (.lst [.ref z20, .ref z21]) = H22 at *
    refine ⟨l19, l22, _, _, rfl, rfl, ((s20.trans s21).trans s22) _ _ h19, h22, (by rw [hx19, sizeLine_eq]; show 8 + 2 ≤ _; omega), fun l23 n23 => ?_⟩
    have hx23 : (xs19 ++ [V.ref z20, .ref z21]).length = 10 := by rw [List.length_append, hx19]; rfl
    have s23 := Same.new (o := .lst (xs19 ++ [.ref z20, .ref z21])) n23
    have h23 : (upd H22 l23 (.lst (xs19 ++ [.ref z20, .ref z21]))) l23 = some (.lst (xs19 ++ [.ref z20, .ref z21])) := upd_same
    have e23 := e22.same s23
    generalize upd H22 l23 (.lst (xs19 ++ [.ref z20, .ref z21])) = H23 at *
    have Ts := sths_same (s22.trans s23) Ts
    generalize (xs19 ++ [V.ref z20, .ref z21] : List V) = xs23 at *
    have k23 : ∀ c o, H c = some o → c ≠ p → H23 c = some o := fun c o e hc => s23 _ _ (s22 _ _ (s21 _ _ (s20 _ _ (k19 c o e hc))))
    clear k19 s20 s21 s22 s23 e19 e20 e21 e22 T20 T21 h19 h22 n20 n21 n22 n23
    refine ⟨_, rfl, ?_⟩
    refine sand_bad (K := K) (i := i) (tv := tVar 1) (ta := tVar 3) e23.o e23.hp hi (fun H Z z => ⟨_, rfl, z⟩) (fun H Z z => ⟨_, rfl, z⟩) (fun H Z z => ⟨_, rfl, _, _, rfl, rfl, z⟩) (fun H1 Z s1 hz => ?_) fun z24 H24 n24 s24 T24 => ?_
    · refine ⟨_, rfl, _, rfl, _, rfl, (by show 3 ≤ sizeLine; decide), fun t2 n2 => ?_⟩
      exact hz _ _ (Same.new n2) (.inr (.inl ⟨t2, _, rfl, upd_same, by show ((3 : Nat) : Int) ≠ 2; decide⟩)) (itemV_len upd_same (by show ((3 : Nat) : Int) ≠ 2; decide))
    have e24 := e23.same s24
    refine sand_bad (K := K) (i := i) (tv := tVar 1) (ta := tVar 3) e24.o e24.hp hi (fun H Z z => ⟨_, rfl, z⟩) (fun H Z z => ⟨_, rfl, z⟩) (fun H Z z => ⟨_, rfl, _, _, rfl, rfl, z⟩) (fun H1 Z s1 hz => ?_) fun z25 H25 n25 s25 T25 => ?_
    · refine ⟨_, rfl, (by show 1 ≤ sizeLine; decide), fun t2 n2 => ?_⟩
      exact hz _ _ (Same.new n2) (.inr (.inl ⟨t2, _, rfl, upd_same, by show ((1 : Nat) : Int) ≠ 2; decide⟩)) (itemV_len upd_same (by show ((1 : Nat) : Int) ≠ 2; decide))
    have e25 := e24.same s25
    refine ⟨(by show 2 ≤ sizeLine; decide), fun l26 n26 => ?_⟩
    have Ts := sths_append (sths_same (s24.trans s25) Ts) (sths_cons (T24.same s25) (sths_cons T25 sths_nil))
    have s26 := Same.new (o := .lst [.ref z24, .ref z25]) n26
    have h26 : (upd H25 l26 (.lst [.ref z24, .ref z25])) l26 = some (.lst [.ref z24, .ref z25]) := upd_same
    have e26 := e25.same s26
    generalize upd H25 l26 (.lst [.ref z24, .ref z25]) = H26 at *
    refine ⟨l23, l26, _, _, rfl, rfl, ((s24.trans s25).trans s26) _ _ h23, h26, (by rw [hx23, sizeLine_eq]; show 10 + 2 ≤ _; omega), fun l27 n27 => ?_⟩
    have hx27 : (xs23 ++ [V.ref z24, .ref z25]).length = 12 := by rw [List.length_append, hx23]; rfl
    have s27 := Same.new (o := .lst (xs23 ++ [.ref z24, .ref z25])) n27
    have h27 : (upd H26 l27 (.lst (xs23 ++ [.ref z24, .ref z25]))) l27 = some (.lst (xs23 ++ [.ref z24, .ref z25])) := upd_same
    have e27 := e26.same s27
    generalize upd H26 l27 (.lst (xs23 ++ [.ref z24, .ref z25])) = H27 at *
    have Ts := sths_same (s26.trans s27) Ts
    generalize (xs23 ++ [V.ref z24, .ref z25] : List V) = xs27 at *
    have k27 : ∀ c o, H c = some o → c ≠ p → H27 c = some o := fun c o e hc => s27 _ _ (s26 _ _ (s25 _ _ (s24 _ _ (k23 c o e hc))))
    clear k23 s24 s25 s26 s27 e23 e24 e25 e26 T24 T25 h23 h26 n24 n25 n26 n27
    refine ⟨_, rfl, ?_⟩
    refine sand_bad (K := K) (i := i) (tv := tVar 1) (ta := tVar 3) e27.o e27.hp hi (fun H Z z => ⟨_, rfl, z⟩) (fun H Z z => ⟨_, rfl, z⟩) (fun H Z z => ⟨_, rfl, _, _, rfl, rfl, z⟩) (fun H1 Z s1 hz => ?_) fun z28 H28 n28 s28 T28 => ?_
    · refine ⟨(by show 1 ≤ sizeLine; decide), fun t0 n0 => ?_⟩
      have s2 := Same.new (o := .tup [.bl true]) n0
      have h0 : (upd H1 t0 (.tup [.bl true])) t0 = some (.tup [.bl true]) := upd_same
      have e2 := (e27.same s1).same s2
      generalize upd H1 t0 (.tup [.bl true]) = H2 at *
      have lm1 : 1 ≤ (m.1.map V.int).length := by rw [List.length_map]; have := om.2.2.1; have := e2.o.L1; omega
      refine ⟨_, rfl, _, rfl, c, _, rfl, SqT.of e2.hc, (fun z => absurd z.1 (sIx_one lm1)), fun t3 n3 => ?_⟩
      rw [cut_from]
      have s3 := Same.new (o := .tup ((m.1.map V.int).drop 1)) n3
      have h3 : (upd H2 t3 (.tup ((m.1.map V.int).drop 1))) t3 = some (.tup ((m.1.map V.int).drop 1)) := upd_same
      have e3 := e2.same s3
      generalize upd H2 t3 (.tup ((m.1.map V.int).drop 1)) = H3 at *
      refine ⟨t0, t3, _, _, rfl, rfl, s3 _ _ h0, h3, (by rw [List.length_drop, sizeLine_eq]; show 1 + _ ≤ _; omega), fun c4 H4 s4 hc4 => ?_⟩
      refine ⟨_, rfl, (by show 2 ≤ sizeLine; decide), fun t5 n5 => ?_⟩
      have s5 := Same.new (o := .tup [.ref c4, u]) n5
      have e5 := (e3.same s4).same s5
      obtain ⟨b1, b2⟩ := e5.badT upd_same (s5 _ _ hc4) (by rw [List.length_append, List.length_drop]; show 1 + _ ≤ 1000; omega) (fun x hx => by
        rcases List.mem_append.mp hx with hx | hx
        · rw [List.mem_singleton.mp hx]
          exact .bl true
        · exact typed_ints m.1 x (List.mem_of_mem_drop hx)) (by
        unfold prodV
        rw [List.all_append]
        show (_ && (false && _)) = false
        rw [Bool.false_and, Bool.and_false])
      exact hz _ _ (((s2.trans s3).trans s4).trans s5) b1 b2
    have e28 := e27.same s28
    refine ⟨(by show 2 ≤ sizeLine; decide), fun l29 n29 => ?_⟩
    have Ts := sths_append (sths_same s28 Ts) (sths_cons T28 (sths_cons (STh.plain (v := .int 0) _ (.int 0) rfl) sths_nil))
    have s29 := Same.new (o := .lst [.ref z28, .int 0]) n29
    have h29 : (upd H28 l29 (.lst [.ref z28, .int 0])) l29 = some (.lst [.ref z28, .int 0]) := upd_same
    have e29 := e28.same s29
    generalize upd H28 l29 (.lst [.ref z28, .int 0]) = H29 at *
    refine ⟨l27, l29, _, _, rfl, rfl, (s28.trans s29) _ _ h27, h29, (by rw [hx27, sizeLine_eq]; show 12 + 2 ≤ _; omega), fun l30 n30 => ?_⟩
    have hx30 : (xs27 ++ [V.ref z28, .int 0]).length = 14 := by rw [List.length_append, hx27]; rfl
    have s30 := Same.new (o := .lst (xs27 ++ [.ref z28, .int 0])) n30
    have h30 : (upd H29 l30 (.lst (xs27 ++ [.ref z28, .int 0]))) l30 = some (.lst (xs27 ++ [.ref z28, .int 0])) := upd_same
    have e30 := e29.same s30
    have lp30 : l30 ≠ p := (ne_of_none e29.hp n30).symm
    generalize upd H29 l30 (.lst (xs27 ++ [.ref z28, .int 0])) = H30 at *
    have Ts := sths_same (s29.trans s30) Ts
    generalize (xs27 ++ [V.ref z28, .int 0] : List V) = xs30 at *
    have k30 : ∀ c o, H c = some o → c ≠ p → H30 c = some o := fun c o e hc => s30 _ _ (s29 _ _ (s28 _ _ (k27 c o e hc)))
    refine ⟨_, rfl, _, rfl, _, rfl, l30, xs30, rfl, .inl (SqL.of h30), p, a8, b8, _, k + 2, rfl, e30.hp, hb8, by omega, by rw [hx30]; decide, by rw [hx30]; exact smallAbs (by decide) (by decide), fun r31 a31 b31 r310 r311 hb31 => ?_⟩
    obtain ⟨v, hat, hv⟩ := at_any xs30 r310 r311
    refine ⟨l30, _, _, _, rfl, rfl, SqL.of (by rw [upd_ne lp30]; exact h30), hat, ?_⟩
    obtain ⟨tt, ht⟩ := Ts v hv
    have k31 : ∀ c o, H30 c = some o → c ≠ p → upd H30 p (.lst [.int a31, .int b31]) c = some o := fun c o e hc => by rw [upd_ne hc]; exact e
    exact q v tt a31 b31 _ (ht.keep (Soft.but e30.hp upd_same k31) k31) upd_same hb31 fun c o e hc => k31 c o (k30 c o e hc) hc
end

def spTruth : Sp := fun vs H Q _ => ∃ b c : Bool, vs = [.bl b, .bl c] ∧ Q (.bl (decide (b = c))) H
section
variable {P : Program} {w : World} {K : PySem.W.Frag} {mg : Str → Option Value} {base : Heap}
theorem sc__law_truth : FnScope ["_law_found", "_law_due"] ["_law_found", "_law_due"] (defScope s__law_truth) := ⟨rfl, rfl, rfl, by decide +kernel, rfl, by decide +kernel, by decide +kernel⟩
theorem ok_truth {f : Addr} {fd : FuncData} (F : Fun K "_law_truth" "_law_truth" s__law_truth f fd) (T : Blt mg) : FnOk P w K mg base CX0 1 f fd ["_law_found", "_law_due"] spTruth := by
  refine F.ok sc__law_truth (fun vs H Q E h => ?_) (fun cdv A outer s H vs Q E hr h => ?_)
  · obtain ⟨b, c, rfl, _⟩ := h
    rfl
  · obtain ⟨b, c, rfl, q⟩ := h
    refine ⟨_, (pss_one (ps_ret (pe_and (kpl_is K T (pv 0) T.bool boot_bool') (pe_one (pe_cmpR op_eq (pv 0) (pv 1) (nomark _)))))), ?_⟩
    refine ⟨_, rfl, _, true, .bl b, rfl, _, rfl, iteT ?_⟩
    refine ⟨_, rfl, _, rfl, rfl, ?_⟩
    have e : decide (V.bl b = V.bl c) = decide (b = c) := by cases b <;> cases c <;> rfl
    rw [e]
    exact q
end

/-! rings made, refused -/
def spGInitX (CG CN : Addr) : Sp := fun vs H Q E => ∃ (g dx : Addr) (v : V) (L : Int), vs = [.ref g, v, .int L] ∧ H g = some (.ins CG dx []) ∧ (¬ (1 ≤ L ∧ L ≤ 4) → E (.ref CN) none H) ∧
  (1 ≤ L → L ≤ 4 → Q .non (upd (upd H g (.ins CG dx [("kind", v)])) g (.ins CG dx [("kind", v), ("width", .int L)])))
def spRingX (CF CR CG CN : Addr) : Sp := fun vs H Q E => ∃ P L : Int, vs = [.int P, .int L] ∧ PrimeOk P ∧ (¬ (1 ≤ L ∧ L ≤ 4) → ∀ H', Same H H' → E (.ref CN) none H') ∧
  (1 ≤ L → L ≤ 4 → ∀ (g x : Addr) (H' : Hp), Same H H' → NumsAt CF CR H' x P → RingAt CG H' g x L → Q (.ref g) H')
section
variable {P : Program} {w : World} {K : PySem.W.Frag} {mg : Str → Option Value} {base : Heap}
theorem sc_Ring___init__ : FnScope ["self", "numbers", "letters"] ["self", "numbers", "letters"] (defScope s_Ring___init__) := ⟨rfl, rfl, rfl, by decide +kernel, rfl, by decide +kernel, by decide +kernel⟩
theorem ok_ginit {f CG C_NoRing : Addr} {fd : FuncData} {tk : Tok} (F : Fun K "__init__" "Ring.__init__" s_Ring___init__ f fd) (cl : Cls K CG) (nK : NoAttr K CG "kind") (nW : NoAttr K CG "width") (cMost : mg "MOST_LETTERS" = some (.int 4 tk)) (ANoRing : mg "NoRing" = some (.ref C_NoRing)) (xc : XCl K C_NoRing) :
    FnOk P w K mg base (CXE P w) 2 f fd ["self", "numbers", "letters"] (spGInitX CG C_NoRing) := by
  refine F.okX sc_Ring___init__ (fun vs H Q E h => ?_) (fun cdv A outer s H vs Q E hr h => ?_)
  · obtain ⟨g, dx, v, L, rfl, _⟩ := h
    rfl
  · obtain ⟨g, dx, v, L, rfl, hg, qn, qy⟩ := h
    refine ⟨_, (pss_cons (ps_if (PW.pt (pw_or (pt_cmpR op_lt (pv 2) pe_int (nomark _)) (pw_or1 (pt_cmpR op_gt (pv 2) (pe_glob (v := .int 4) rfl cMost ⟨_, rfl⟩) (nomark _)))))
(pss_one (ps_raise xc.ek ANoRing (pa_cons pe_str pa_nil)))
pss_nil)
(pss_cons (ps_fld (pv 0) (pv 1) rfl)
(pss_one (ps_fld (pv 0) (pv 2) rfl)))), ?_⟩
    have bad : ¬ (1 ≤ L ∧ L ≤ 4) → E (.ref C_NoRing) none H := qn
    refine ⟨_, rfl, _, _, rfl, rfl, _, rfl, ite2 (fun h => ?_) (fun h => ?_)⟩
    · have h1 : L < 1 := of_decide_eq_true h
      exact iteT ⟨(by show 1 ≤ sizeLine; decide), bad (by omega)⟩
    · have h1 : ¬ L < 1 := fun z => h (decide_eq_true z)
      refine ⟨_, rfl, _, _, rfl, rfl, _, rfl, ite2 (fun h => ?_) (fun h => ?_)⟩
      · have h4 : L > 4 := of_decide_eq_true h
        exact ⟨(by show 1 ≤ sizeLine; decide), bad (by omega)⟩
      · have h4 : ¬ L > 4 := fun z => h (decide_eq_true z)
        exact ⟨_, rfl, _, rfl, g, CG, dx, _, rfl, hg, cl, nK, (by decide), _, rfl, _, rfl, g, CG, dx, _, rfl, upd_same, cl, nW, (by show (1 : Nat) < 1000; decide), qy (by omega) (by omega)⟩
theorem sc__law_ring : FnScope ["_law_prime_here", "_law_letters"] ["_law_prime_here", "_law_letters"] (defScope s__law_ring) := ⟨rfl, rfl, rfl, by decide +kernel, rfl, by decide +kernel, by decide +kernel⟩
theorem ok_ring {f CF CR CG C_NoRing : Addr} {fd : FuncData} (F : Fun K "_law_ring" "_law_ring" s__law_ring f fd) (G_law_numbers : FnB P w K mg base 4 "_law_numbers" (spNums CF CR)) (MRing : MkBX P w K mg base 2 CG "Ring" (spGInitX CG C_NoRing)) :
    FnOk P w K mg base (CXE P w) 5 f fd ["_law_prime_here", "_law_letters"] (spRingX CF CR CG C_NoRing) := by
  refine F.okX sc__law_ring (fun vs H Q E h => ?_) (fun cdv A outer s H vs Q E hr h => ?_)
  · obtain ⟨P, L, rfl, _⟩ := h
    rfl
  · obtain ⟨P, L, rfl, hP, qn, qy⟩ := h
    refine ⟨_, (pss_one (ps_ret (pe_mkX MRing (hr.mono (by first | decide | exact Nat.le_refl _)) passes_on (pa_cons (pe_fn G_law_numbers (hr.mono (by first | decide | exact Nat.le_refl _)) (pa_cons (pv 0) pa_nil)) (pa_cons (pv 1) pa_nil))))), ?_⟩
    refine ⟨_, rfl, P, rfl, hP, fun x H1 s1 hN => ⟨_, rfl, fun g dx ng ndx ne => ?_⟩⟩
    have s2 : Same H1 (upd (upd H1 dx (.own g)) g (.ins CG dx [])) := (Same.new ndx).put ng
    refine ⟨g, dx, .ref x, L, rfl, upd_same, fun hL => qn hL _ (s1.trans s2), fun h1 h4 => ⟨rfl, qy h1 h4 g x _ ?_ ?_ ⟨dx, upd_same⟩⟩⟩
    · intro c o e
      have e1 := s1 c o e
      have hc : c ≠ g := ne_of_none e1 ng
      rw [upd_ne hc, upd_ne hc, upd_ne hc, upd_ne (ne_of_none e1 ndx)]
      exact e1
    · refine hN.mono fun o e => ?_
      have hc : x ≠ g := ne_of_none e ng
      rw [upd_ne hc, upd_ne hc, upd_ne hc, upd_ne (ne_of_none e ndx)]
      exact e
end

/-! MARK5 -/
/-! the law -/
def spLaw (K : PySem.W.Frag) : Sp := fun vs H Q _ => ∃ (a : Addr) (ns : List Int), vs = [.ref a] ∧ SqL K H a (ns.map V.int) ∧ ns.length ≤ 63 ∧ ∀ H', Q (.bl true) H'
theorem canon_self {P : Int} {out : List Mono} (ok : ∀ p ∈ out, OkN P p.2) (h : IsSum P out out) : canonB out = true := by
  rw [← canon_iff ok h]
  exact decide_eq_true rfl
theorem next_go {D : Ends} {σ : L2.St} {H : Hp} (h : D.nx σ H) : tNext D σ H := h
/-- a drawn sum -/
theorem one_of {P L : Int} (hP : PrimeOk P) (L1 : 1 ≤ L) (L4 : L ≤ 4) {H : Hp} {p l : Addr} {ts : List V} {ps out : List Mono} (hl : ps.length ≤ 8) (h : PsOk P L ps) (hs : IsSum P ps out) (ht : H l = some (.lst ts)) (lp : l ≠ p) (pr : PartsR P H ts out) : One P L H p l ts out := by
  have hB := hP.b
  obtain ⟨ln, ok, is, hL⟩ := sum_again hP (by omega) h hs
  have h' : ∀ p ∈ ps, OkN P p.2 ∧ Sz 103 p.2 := fun p hp => ⟨(h p hp).1, (h p hp).2.1⟩
  refine ⟨hP, L1, L4, ht, lp, pr, ?_, fall_nodup is.2, fun q hq => ⟨(ok.1 q hq).1, ?_, hL q hq⟩⟩
  · have e1 := hs.1.length_eq
    have e2 := List.length_filter_le nz (acc P ps)
    have e3 := acc_len P ps
    omega
  · have m1 := (List.mem_filter.mp (hs.1.mem_iff.mp hq)).1
    exact (acc_sz hP h' ps.length (Nat.le_refl _) q (by rw [List.take_length]; exact m1)).mono (by omega)
theorem ones_one {P L : Int} (hP : PrimeOk P) (L1 : 1 ≤ L) (L4 : L ≤ 4) {H : Hp} {p l t c : Addr} {u : V} (ht : H l = some (.lst [.ref t])) (lp : l ≠ p) (h1 : H t = some (.tup [.ref c, u])) (h2 : H c = some (.tup ((List.replicate L.toNat (1 : Int)).map V.int))) (h3 : At P H u (1, 1)) : One P L H p l [.ref t] [(List.replicate L.toNat 1, (1, 1))] := by
  have hB := hP.b
  refine ⟨hP, L1, L4, ht, lp, .cons ⟨t, c, u, rfl, h1, h2, h3⟩ .nil, by show 1 ≤ 9; decide, by simp, fun q hq => ?_⟩
  rw [List.mem_singleton.mp hq]
  refine ⟨?_, ⟨Nat.one_lt_two_pow (by decide), Nat.one_lt_two_pow (by decide)⟩, by show ((List.replicate L.toNat (1 : Int)).length : Int) = L; rw [List.length_replicate]; omega, fun e he => by rw [List.eq_of_mem_replicate he]; decide⟩
  by_cases h0 : P = 0
  · exact .inl ⟨h0, (by show (0 : Int) < 1; decide), (by show Int.gcd 1 1 = 1; decide)⟩
  · exact .inr ⟨h0, (by show (0 : Int) ≤ 1; decide), (by show 1 < P; omega), rfl⟩
section
variable {P : Program} {w : World} {K : PySem.W.Frag} {mg : Str → Option Value} {base : Heap}
theorem sc_law : FnScope ["_law_script", "_law_prime_here", "_law_letters", "_law_ring_here", "_law_k", "_law_bag_here", "_law_one", "_law_thing"] ["_law_script"] (defScope s_law) := ⟨rfl, rfl, rfl, by decide +kernel, rfl, by decide +kernel, by decide +kernel⟩
set_option maxHeartbeats 4000000 in
theorem ok_law {f CF CR CG C_NoRing : Addr} {fd : FuncData} (F : Fun K "law" "law" s_law f fd) (T : Blt mg) (G_law_cell : FnB P w K mg base 1 "_law_cell" (spCell K)) (G_law_bag : FnB P w K mg base 2 "_law_bag" (spBag K)) (G_law_prime : FnB P w K mg base 2 "_law_prime" spPrime)
    (X_law_ring : FnBX P w K mg base 5 "_law_ring" (spRingX CF CR CG C_NoRing)) (G_law_parts : FnB P w K mg base 5 "_law_parts" spParts) (G_law_sum : FnB P w K mg base 4 "_law_sum" spLSum) (G_law_unit : FnB P w K mg base 1 "_law_unit" spUnit) (G_law_truth : FnB P w K mg base 1 "_law_truth" spTruth)
    (G_law_spoilt : FnB P w K mg base 2 "_law_spoilt" (spSpoilt K)) (G_law_sum_like : FnB P w K mg base 5 "_law_sum_like" (spSLike2 K)) (Gis_sum : FnB P w K mg base 4 "is_sum" (spIsSum K CF CR CG)) :
    FnOk P w K mg base CX0 7 f fd ["_law_script"] (spLaw K) := by
  refine F.ok sc_law (fun vs H Q E h => ?_) (fun cdv A outer s H vs Q E hr h => ?_)
  · obtain ⟨a, ns, rfl, _⟩ := h
    rfl
  · obtain ⟨a, ns, rfl, hS, hlen, q⟩ := h
    have hu := hr.units
    refine ⟨_, (pss_cons (ps_set (i := 1) sc_law.nd rfl (Or.inl rfl) (pe_fn G_law_prime (hr.mono (by first | decide | exact Nat.le_refl _)) (pa_cons (pe_fn G_law_bag (hr.mono (by first | decide | exact Nat.le_refl _)) (pa_cons (pv 0) (pa_cons pe_int pa_nil))) pa_nil)))
(pss_cons (ps_set (i := 2) sc_law.nd rfl (Or.inl rfl) (pe_op op_add pe_int (pe_op op_mod (pe_fn G_law_cell (hr.mono (by first | decide | exact Nat.le_refl _)) (pa_cons (pv 0) (pa_cons pe_int pa_nil))) pe_int)))
(pss_cons (ps_set (i := 3) sc_law.nd rfl (Or.inl rfl) (pe_fnX X_law_ring (hr.mono (by first | decide | exact Nat.le_refl _)) passE0 (pa_cons (pv 1) (pa_cons (pv 2) pa_nil))))
(pss_cons (ps_if (pt_cmpR op_isnotB (pe_fn Gis_sum (hr.mono (by first | decide | exact Nat.le_refl _)) (pa_cons (pv 3) (pa_cons (pe_lst pa_nil) pa_nil))) pe_bl (nomark _))
(pss_one (ps_ret pe_bl))
pss_nil)
(pss_cons (ps_for PassesOwn.never rfl (pi_range2 rfl T.range (pa_cons pe_int (pa_cons (pl_max T (pa_cons pe_int (pa_cons (pl_min T (pa_cons pe_int (pa_cons (kpl_len K T (pv 0)) pa_nil))) pa_nil))) pa_nil))) (pg_name (i := 4) sc_law.nd rfl (Or.inl rfl))
(pss_cons (ps_set (i := 5) sc_law.nd rfl (Or.inl rfl) (pe_fn G_law_bag (hr.mono (by first | decide | exact Nat.le_refl _)) (pa_cons (pv 0) (pa_cons (pv 4) pa_nil))))
(pss_cons (ps_set (i := 6) sc_law.nd rfl (Or.inl rfl) (pe_fn G_law_sum (hr.mono (by first | decide | exact Nat.le_refl _)) (pa_cons (pv 1) (pa_cons (pe_fn G_law_parts (hr.mono (by first | decide | exact Nat.le_refl _)) (pa_cons (pv 1) (pa_cons (pv 2) (pa_cons pe_int (pa_cons pe_int (pa_cons (pv 5) pa_nil)))))) pa_nil))))
(pss_cons (ps_if (pt_cmpR op_isnotB (pe_fn Gis_sum (hr.mono (by first | decide | exact Nat.le_refl _)) (pa_cons (pv 3) (pa_cons (kpl_list K T (pv 6)) pa_nil))) pe_bl (nomark _))
(pss_one (ps_ret pe_bl))
pss_nil)
(pss_cons (ps_if (pt_cmpR (keqD K rfl hu) (pv 6) (pe_lst pa_nil) (nomark _))
(pss_one (ps_set (i := 6) sc_law.nd rfl (Or.inl rfl) (pe_lst (pa_cons (pe_tup (pa_cons (kpl_tuple K T (by exact pe_comp (N := ["_law_letter"]) (src := [none]) rfl rfl rfl (by exact (pi_range1 rfl T.range (pa_cons (pv 2) pa_nil))) (fun _ _ _ => by exact ⟨by exact (pg_nm (i := 0) nd_6 rfl rfl), pif_nil, by exact pe_int⟩))) (pa_cons (pe_fn G_law_unit (hr.mono (by first | decide | exact Nat.le_refl _)) (pa_cons (pv 1) pa_nil)) pa_nil))) pa_nil))))
pss_nil)
(pss_cons (ps_set (i := 7) sc_law.nd rfl (Or.inl rfl) (pe_fn G_law_spoilt (hr.mono (by first | decide | exact Nat.le_refl _)) (pa_cons (pv 1) (pa_cons (pv 6) (pa_cons (pv 5) pa_nil)))))
(pss_one (ps_if (pt_not (pt_val (pe_fn G_law_truth (hr.mono (by first | decide | exact Nat.le_refl _)) (pa_cons (pe_fn Gis_sum (hr.mono (by first | decide | exact Nat.le_refl _)) (pa_cons (pv 3) (pa_cons (pv 7) pa_nil))) (pa_cons (pe_fn G_law_sum_like (hr.mono (by first | decide | exact Nat.le_refl _)) (pa_cons (pv 1) (pa_cons (pv 2) (pa_cons (pv 7) pa_nil)))) pa_nil)))))
(pss_one (ps_ret pe_bl))
pss_nil))))))))
(pss_one (ps_ret pe_bl))))))), ?_⟩
    refine ⟨_, rfl, a, ns, 0, rfl, hS, hlen, by decide, by decide, fun p0 a1 b1 hp0 hb1 => ?_⟩
    refine ⟨p0, a1, b1, 100, rfl, upd_same, hb1, by decide, fun P a2 b2 H1 hP hp1 hb2 kp1 => ?_⟩
    have sm1 : Same H H1 := fun c o e => kp1 c o (by rw [upd_ne (ne_of_none e hp0)]; exact e) (ne_of_none e hp0)
    refine ⟨_, rfl, a, ns, 1, rfl, sm1.seq hS, hlen, by decide, by decide, fun r => ⟨_, _, rfl, rfl, (by show (0 : Int) < 4; decide), _, _, rfl, rfl, ?_⟩⟩
    have hL1 : (1 : Int) ≤ 1 + r % 4 := by have := Int.emod_nonneg r (show (4 : Int) ≠ 0 by decide); omega
    have hL4 : 1 + r % 4 ≤ 4 := by have := Int.emod_lt_of_pos r (show (0 : Int) < 4 by decide); omega
    dsimp only
    generalize 1 + r % 4 = L at *
    have hB := hP.b
    refine ⟨_, rfl, _, rfl, P, L, rfl, hP, fun hL => absurd ⟨hL1, hL4⟩ hL, fun _ _ g x H2 s2 hN hG => ?_⟩
    obtain ⟨dxg, hg⟩ := id hG
    have sm2 := sm1.trans s2
    refine ⟨_, rfl, Nat.zero_le _, fun l3 n3 => ?_⟩
    have s3 := Same.new (o := .lst []) n3
    have h3 : (upd H2 l3 (.lst [])) l3 = some (.lst []) := upd_same
    have l3g : l3 ≠ g := (ne_of_none hg n3).symm
    generalize upd H2 l3 (.lst []) = H3 at *
    refine ⟨g, x, g, P, L, _, true, rfl, hP, ⟨dxg, s3 _ _ hg⟩, hN.mono fun o e => s3 _ _ e, .inr (.inr ⟨l3, [], [], rfl, l3g, h3, .nil, Nat.zero_le _, ⟨fun p hp => (by cases hp), fun i p hp => (by simp [acc] at hp)⟩, fun q hq => (by cases hq), rfl⟩), fun H4 s4 => ?_⟩
    refine ⟨_, _, rfl, rfl, _, rfl, iteF ?_⟩
    have s24 := s3.trans s4
    have smH := sm2.trans s24
    have hln : ((ns.map V.int).length : Int) ≤ 63 := by rw [List.length_map]; omega
    have hJ : ∀ n : Int, n ≤ 63 → (3 : Int) ≤ (if (if n < 22 then n else 22) > 3 then (if n < 22 then n else 22) else 3) ∧ (if (if n < 22 then n else 22) > 3 then (if n < 22 then n else 22) else 3) ≤ 22 := fun n hn => by split <;> split <;> omega
    have hJ := hJ _ hln
    refine ⟨_, rfl, a, _, rfl, .inl (smH.seq hS), _, _, rfl, _, _, rfl, _, _, rfl, ⟨by decide, by decide, by omega, by omega⟩, for_range (lo := 2) (fun i σ H7 => ∃ x4 x5 x6 x7 : Option V, σ = [some (.ref a), some (.int P), some (.int L), some (.ref g), x4, x5, x6, x7] ∧ Same H4 H7)
      ⟨none, none, none, none, rfl, Same.refl _⟩ ?_ ?_⟩
    · rintro i σ H7 hi ⟨x4, x5, x6, x7, rfl, s7⟩
      have smH7 := smH.trans s7
      refine ⟨_, rfl, _, rfl, a, ns, _, rfl, smH7.seq hS, hlen, by omega, by omega, fun p c d hp hb => ?_⟩
      refine ⟨_, rfl, _, rfl, _, rfl, _, rfl, p, P, L, 8, 8, c, d, 100, rfl, hP, hL1, hL4, by decide, by decide, by decide, by decide, upd_same, hb, by decide, fun l ts ps a' b' H8 nl hl pr ln80 ok8 hp8 hb8 kp8 => ?_⟩
      have ln8 : ps.length ≤ 8 := by omega
      have s8 : Same H7 H8 := fun c o e => kp8 c o (by rw [upd_ne (ne_of_none e hp)]; exact e) (ne_of_none e hp)
      have sok := sumOk_drawn hP (by omega) fun q hq => ⟨(ok8 q hq).1, (ok8 q hq).2.1⟩
      refine ⟨l, P, ts, ps, rfl, hP, hl, pr, by omega, sok, fun dd rs out H10 nd s10 hd po is => ?_⟩
      have hp10 := s10 _ _ hp8
      have ddp : dd ≠ p := (ne_of_none hp8 nd).symm
      have O10 := one_of hP hL1 hL4 ln8 ok8 is hd ddp po
      obtain ⟨lo, oko, iso, lenO⟩ := sum_again hP (by omega) ok8 is
      have s410 := (s7.trans s8).trans s10
      refine ⟨_, rfl, _, rfl, dd, rs, rfl, .inl (SqL.of hd), fun l2 n2 => ?_⟩
      have s11 := Same.new (o := .lst rs) n2
      have h11 : (upd H10 l2 (.lst rs)) l2 = some (.lst rs) := upd_same
      have l2p : l2 ≠ p := (ne_of_none hp10 n2).symm
      generalize upd H10 l2 (.lst rs) = H11 at *
      have s411 := s410.trans s11
      have s211 := s24.trans s411
      refine ⟨g, x, p, P, L, _, true, rfl, hP, ⟨dxg, s211 _ _ hg⟩, hN.mono fun o e => s211 _ _ e, .inr (.inr ⟨l2, rs, out, rfl, l2p, h11, po.mono fun t xs e => s11 _ _ e, by have := O10.ln; omega, oko, fun q hq => ⟨(lenO q hq).1, by have := (lenO q hq).1; omega, (lenO q hq).2⟩, (canon_self (fun q hq => (oko.1 q hq).1) iso).symm⟩), fun H12 s12 => ?_⟩
      refine ⟨_, _, rfl, rfl, _, rfl, iteF ?_⟩
      have s1012 := s11.trans s12
      have O12 := O10.same s1012
      have hp12 := s1012 _ _ hp10
      refine next_go ?_
      dsimp only
      refine seq_cut (t := tIfS _ _ _) (fun σ' H' => ∃ (l1 : Addr) (ts1 : List V) (ps1 : List Mono), σ' = [some (.ref a), some (.int P), some (.int L), some (.ref g), some (.int (2 + (i : Int))), some (.ref p), some (.ref l1), x7] ∧ Same H12 H' ∧ One P L H' p l1 ts1 ps1 ∧ ps1 ≠ []) (fun R hR => ?_) ?_
      · refine ⟨_, rfl, Nat.zero_le _, fun l13 n13 => ?_⟩
        have s13 := Same.new (o := .lst []) n13
        have h13 : (upd H12 l13 (.lst [])) l13 = some (.lst []) := upd_same
        have O13 := O12.same s13
        have hp13 := s13 _ _ hp12
        generalize upd H12 l13 (.lst []) = H13 at *
        refine ⟨dS P out, dS P [], dr_dS O13.hl O13.pr, dr_dS h13 .nil, shaped_dS _ _, shaped_dS _ _, _, rfl, ?_⟩
        rw [eqv_dS2 (fun q hq => (oko.1 q hq).1) (fun q hq => by cases hq)]
        refine ite2 (fun h => ?_) (fun h => ?_)
        · refine ⟨_, rfl, L, rfl, by omega, by omega, comp_by (n := L.toNat) (σ0 := [none]) rfl (fun acc i ws σ H' => ∃ u : Option V, σ = [u] ∧ Same H13 H' ∧ ws = (List.replicate i (1 : Int)).map V.int) (by rw [sizeLine_eq]; omega) (fun acc hacc => ⟨none, rfl, Same.new hacc, rfl⟩) ?_ ?_ ?_ ?_⟩
          · rintro acc i ws σ H' hacc hi hz _
            exact hi
          · rintro acc ws σ H' hacc hz _
            exact Nat.le_refl _
          · rintro acc j ws σ H' x H'' hacc hj hz hzl ⟨u, rfl, sm, rfl⟩ ⟨rfl, rfl⟩
            refine ⟨_, hz, (by rw [sizeLine_eq]; omega), _, upd_same, by rw [List.length_append, List.length_singleton]; omega, _, rfl, sm.put hacc, ?_⟩
            rw [List.replicate_succ', List.map_append]
            rfl
          · rintro acc ws σ H' hacc hz hzl ⟨u, rfl, sm, rfl⟩
            refine ⟨acc, _, rfl, SqL.of hz, fun c14 n14 => ?_⟩
            have s14 := Same.new (o := .tup ((List.replicate L.toNat (1 : Int)).map V.int)) n14
            have h14 : (upd H' c14 (.tup ((List.replicate L.toNat (1 : Int)).map V.int))) c14 = some (.tup ((List.replicate L.toNat (1 : Int)).map V.int)) := upd_same
            generalize upd H' c14 (.tup ((List.replicate L.toNat (1 : Int)).map V.int)) = H14 at *
            refine ⟨_, rfl, P, rfl, hP, fun u15 H15 s15 a15 => ⟨(by show 2 ≤ sizeLine; decide), fun t16 n16 => ⟨(by show 1 ≤ sizeLine; decide), fun l17 n17 => ?_⟩⟩⟩
            have s16 := Same.new (o := .tup [.ref c14, u15]) n16
            have s17 := Same.new (o := .lst [.ref t16]) n17
            have sA := ((sm.trans s14).trans s15).trans s16
            refine hR _ _ ⟨l17, _, _, rfl, (s13.trans sA).trans s17, ones_one hP hL1 hL4 upd_same (ne_of_none (sA _ _ hp13) n17).symm (s17 _ _ upd_same) (s17 _ _ (s16 _ _ (s15 _ _ h14))) ((a15.same s16).same s17), by simp⟩
        · exact hR _ _ ⟨dd, rs, out, rfl, s13, O13, fun z => h (decide_eq_true z)⟩
      rintro σ' H13 ⟨l1, ts1, ps1, rfl, s13, O13, ne13⟩
      have hp13 := s13 _ _ hp12
      refine ⟨_, rfl, _, rfl, _, rfl, l1, p, P, L, a', b', 305, ts1, ps1, rfl, O13, ne13, hp13, hb8, by decide, fun v t a14 b14 H14 T14 hp14 _ k14 => ?_⟩
      have s414 : Same H4 H14 := fun c o e => k14 c o (((s411.trans s12).trans s13) c o e) (ne_of_none (s7 c o e) hp)
      have s214 := s24.trans s414
      refine ⟨_, rfl, _, rfl, g, x, p, P, L, v, t, rfl, hP, ⟨dxg, s214 _ _ hg⟩, hN.mono fun o e => s214 _ _ e, T14, fun H15 s15 => ?_⟩
      refine ⟨_, rfl, _, rfl, _, rfl, p, P, L, v, t, rfl, hP, T14.keep (Soft.of s15) (fun c o e _ => s15 c o e), fun H16 s16 => ?_⟩
      refine ⟨_, _, rfl, ?_⟩
      rw [decide_eq_true rfl]
      exact ⟨_, rfl, iteF ⟨_, _, _, _, rfl, (s414.trans s15).trans s16⟩⟩
    · rintro σ H7 _
      exact q H7
end

set_option maxHeartbeats 4000000 in
theorem all_mk {l : PySem.W.OpenLaw} {w : World} {K : PySem.W.Frag} {h : Heap} {mg : Str → Option Value} {fa f0 f1 f2 f3 f4 f5 f6 f7 f8 f9 f10 f11 f12 f13 f14 f15 f16 f17 f18 f19 f20 f21 f22 f23 f24 f25 f26 f27 f28 f29 f30 f31 f32 f33 f34 : Addr} (X : K.In h) (G : h.Ns mainGlobals mg) (hfa : mg "law" = some (.ref fa))
    {od0 an0 : Option Addr} {sl0 : Array (Option Value)} {oc0 kV0 dc0 pm0 cd0 ct0 : Value}
    (a0 : PySem.W.nsIn K mainGlobals "is_whole_number" = some (some (.ref f0))) (l0 : K.lookup f0 = some ⟨oc0, od0, .func (PySem.W.fnOf "is_whole_number" "is_whole_number" (defArgs s_is_whole_number) (defBody s_is_whole_number) (defScope s_is_whole_number) .none kV0 dc0 pm0 an0 cd0 ct0), sl0⟩) (c0 : PySem.W.codeIn K cd0 "is_whole_number" = true) (k0 : PySem.W.keepIn K (.ref f0) = true)
    {od1 an1 : Option Addr} {sl1 : Array (Option Value)} {oc1 kV1 dc1 pm1 cd1 ct1 : Value}
    (a1 : PySem.W.nsIn K mainGlobals "is_pair" = some (some (.ref f1))) (l1 : K.lookup f1 = some ⟨oc1, od1, .func (PySem.W.fnOf "is_pair" "is_pair" (defArgs s_is_pair) (defBody s_is_pair) (defScope s_is_pair) .none kV1 dc1 pm1 an1 cd1 ct1), sl1⟩) (c1 : PySem.W.codeIn K cd1 "is_pair" = true) (k1 : PySem.W.keepIn K (.ref f1) = true)
    {od2 an2 : Option Addr} {sl2 : Array (Option Value)} {oc2 kV2 dc2 pm2 cd2 ct2 : Value}
    (a2 : PySem.W.nsIn K mainGlobals "is_prime" = some (some (.ref f2))) (l2 : K.lookup f2 = some ⟨oc2, od2, .func (PySem.W.fnOf "is_prime" "is_prime" (defArgs s_is_prime) (defBody s_is_prime) (defScope s_is_prime) .none kV2 dc2 pm2 an2 cd2 ct2), sl2⟩) (c2 : PySem.W.codeIn K cd2 "is_prime" = true) (k2 : PySem.W.keepIn K (.ref f2) = true)
    {od3 an3 : Option Addr} {sl3 : Array (Option Value)} {oc3 kV3 dc3 pm3 cd3 ct3 : Value}
    (a3 : PySem.W.nsIn K mainGlobals "greatest_divisor" = some (some (.ref f3))) (l3 : K.lookup f3 = some ⟨oc3, od3, .func (PySem.W.fnOf "greatest_divisor" "greatest_divisor" (defArgs s_greatest_divisor) (defBody s_greatest_divisor) (defScope s_greatest_divisor) .none kV3 dc3 pm3 an3 cd3 ct3), sl3⟩) (c3 : PySem.W.codeIn K cd3 "greatest_divisor" = true) (k3 : PySem.W.keepIn K (.ref f3) = true)
    {od4 an4 : Option Addr} {sl4 : Array (Option Value)} {oc4 kV4 dc4 pm4 cd4 ct4 : Value}
    (a4 : PySem.W.nsIn K mainGlobals "inverse" = some (some (.ref f4))) (l4 : K.lookup f4 = some ⟨oc4, od4, .func (PySem.W.fnOf "inverse" "inverse" (defArgs s_inverse) (defBody s_inverse) (defScope s_inverse) .none kV4 dc4 pm4 an4 cd4 ct4), sl4⟩) (c4 : PySem.W.codeIn K cd4 "inverse" = true) (k4 : PySem.W.keepIn K (.ref f4) = true)
    {od5 an5 : Option Addr} {sl5 : Array (Option Value)} {oc5 kV5 dc5 pm5 cd5 ct5 : Value}
    (a5 : PySem.W.nsIn K mainGlobals "is_product" = some (some (.ref f5))) (l5 : K.lookup f5 = some ⟨oc5, od5, .func (PySem.W.fnOf "is_product" "is_product" (defArgs s_is_product) (defBody s_is_product) (defScope s_is_product) .none kV5 dc5 pm5 an5 cd5 ct5), sl5⟩) (c5 : PySem.W.codeIn K cd5 "is_product" = true) (k5 : PySem.W.keepIn K (.ref f5) = true)
    {od6 an6 : Option Addr} {sl6 : Array (Option Value)} {oc6 kV6 dc6 pm6 cd6 ct6 : Value}
    (a6 : PySem.W.nsIn K mainGlobals "degree" = some (some (.ref f6))) (l6 : K.lookup f6 = some ⟨oc6, od6, .func (PySem.W.fnOf "degree" "degree" (defArgs s_degree) (defBody s_degree) (defScope s_degree) .none kV6 dc6 pm6 an6 cd6 ct6), sl6⟩) (c6 : PySem.W.codeIn K cd6 "degree" = true) (k6 : PySem.W.keepIn K (.ref f6) = true)
    {od7 an7 : Option Addr} {sl7 : Array (Option Value)} {oc7 kV7 dc7 pm7 cd7 ct7 : Value}
    (a7 : PySem.W.nsIn K mainGlobals "height" = some (some (.ref f7))) (l7 : K.lookup f7 = some ⟨oc7, od7, .func (PySem.W.fnOf "height" "height" (defArgs s_height) (defBody s_height) (defScope s_height) .none kV7 dc7 pm7 an7 cd7 ct7), sl7⟩) (c7 : PySem.W.codeIn K cd7 "height" = true) (k7 : PySem.W.keepIn K (.ref f7) = true)
    {od8 an8 : Option Addr} {sl8 : Array (Option Value)} {oc8 kV8 dc8 pm8 cd8 ct8 : Value}
    (a8 : PySem.W.nsIn K mainGlobals "is_above" = some (some (.ref f8))) (l8 : K.lookup f8 = some ⟨oc8, od8, .func (PySem.W.fnOf "is_above" "is_above" (defArgs s_is_above) (defBody s_is_above) (defScope s_is_above) .none kV8 dc8 pm8 an8 cd8 ct8), sl8⟩) (c8 : PySem.W.codeIn K cd8 "is_above" = true) (k8 : PySem.W.keepIn K (.ref f8) = true)
    {od9 an9 : Option Addr} {sl9 : Array (Option Value)} {oc9 kV9 dc9 pm9 cd9 ct9 : Value}
    (a9 : PySem.W.nsIn K mainGlobals "is_sum" = some (some (.ref f9))) (l9 : K.lookup f9 = some ⟨oc9, od9, .func (PySem.W.fnOf "is_sum" "is_sum" (defArgs s_is_sum) (defBody s_is_sum) (defScope s_is_sum) .none kV9 dc9 pm9 an9 cd9 ct9), sl9⟩) (c9 : PySem.W.codeIn K cd9 "is_sum" = true) (k9 : PySem.W.keepIn K (.ref f9) = true)
    {od10 an10 : Option Addr} {sl10 : Array (Option Value)} {oc10 kV10 dc10 pm10 cd10 ct10 : Value}
    (a10 : PySem.W.nsIn K mainGlobals "is_part" = some (some (.ref f10))) (l10 : K.lookup f10 = some ⟨oc10, od10, .func (PySem.W.fnOf "is_part" "is_part" (defArgs s_is_part) (defBody s_is_part) (defScope s_is_part) .none kV10 dc10 pm10 an10 cd10 ct10), sl10⟩) (c10 : PySem.W.codeIn K cd10 "is_part" = true) (k10 : PySem.W.keepIn K (.ref f10) = true)
    {od11 an11 : Option Addr} {sl11 : Array (Option Value)} {oc11 kV11 dc11 pm11 cd11 ct11 : Value}
    (a11 : PySem.W.nsIn K mainGlobals "_law_truth" = some (some (.ref f11))) (l11 : K.lookup f11 = some ⟨oc11, od11, .func (PySem.W.fnOf "_law_truth" "_law_truth" (defArgs s__law_truth) (defBody s__law_truth) (defScope s__law_truth) .none kV11 dc11 pm11 an11 cd11 ct11), sl11⟩) (c11 : PySem.W.codeIn K cd11 "_law_truth" = true) (k11 : PySem.W.keepIn K (.ref f11) = true)
    {od12 an12 : Option Addr} {sl12 : Array (Option Value)} {oc12 kV12 dc12 pm12 cd12 ct12 : Value}
    (a12 : PySem.W.nsIn K mainGlobals "_law_cell" = some (some (.ref f12))) (l12 : K.lookup f12 = some ⟨oc12, od12, .func (PySem.W.fnOf "_law_cell" "_law_cell" (defArgs s__law_cell) (defBody s__law_cell) (defScope s__law_cell) .none kV12 dc12 pm12 an12 cd12 ct12), sl12⟩) (c12 : PySem.W.codeIn K cd12 "_law_cell" = true) (k12 : PySem.W.keepIn K (.ref f12) = true)
    {od13 an13 : Option Addr} {sl13 : Array (Option Value)} {oc13 kV13 dc13 pm13 cd13 ct13 : Value}
    (a13 : PySem.W.nsIn K mainGlobals "_law_bag" = some (some (.ref f13))) (l13 : K.lookup f13 = some ⟨oc13, od13, .func (PySem.W.fnOf "_law_bag" "_law_bag" (defArgs s__law_bag) (defBody s__law_bag) (defScope s__law_bag) .none kV13 dc13 pm13 an13 cd13 ct13), sl13⟩) (c13 : PySem.W.codeIn K cd13 "_law_bag" = true) (k13 : PySem.W.keepIn K (.ref f13) = true)
    {od14 an14 : Option Addr} {sl14 : Array (Option Value)} {oc14 kV14 dc14 pm14 cd14 ct14 : Value}
    (a14 : PySem.W.nsIn K mainGlobals "_law_take" = some (some (.ref f14))) (l14 : K.lookup f14 = some ⟨oc14, od14, .func (PySem.W.fnOf "_law_take" "_law_take" (defArgs s__law_take) (defBody s__law_take) (defScope s__law_take) .none kV14 dc14 pm14 an14 cd14 ct14), sl14⟩) (c14 : PySem.W.codeIn K cd14 "_law_take" = true) (k14 : PySem.W.keepIn K (.ref f14) = true)
    {od15 an15 : Option Addr} {sl15 : Array (Option Value)} {oc15 kV15 dc15 pm15 cd15 ct15 : Value}
    (a15 : PySem.W.nsIn K mainGlobals "_law_great" = some (some (.ref f15))) (l15 : K.lookup f15 = some ⟨oc15, od15, .func (PySem.W.fnOf "_law_great" "_law_great" (defArgs s__law_great) (defBody s__law_great) (defScope s__law_great) .none kV15 dc15 pm15 an15 cd15 ct15), sl15⟩) (c15 : PySem.W.codeIn K cd15 "_law_great" = true) (k15 : PySem.W.keepIn K (.ref f15) = true)
    {od16 an16 : Option Addr} {sl16 : Array (Option Value)} {oc16 kV16 dc16 pm16 cd16 ct16 : Value}
    (a16 : PySem.W.nsIn K mainGlobals "_law_signed" = some (some (.ref f16))) (l16 : K.lookup f16 = some ⟨oc16, od16, .func (PySem.W.fnOf "_law_signed" "_law_signed" (defArgs s__law_signed) (defBody s__law_signed) (defScope s__law_signed) .none kV16 dc16 pm16 an16 cd16 ct16), sl16⟩) (c16 : PySem.W.codeIn K cd16 "_law_signed" = true) (k16 : PySem.W.keepIn K (.ref f16) = true)
    {od17 an17 : Option Addr} {sl17 : Array (Option Value)} {oc17 kV17 dc17 pm17 cd17 ct17 : Value}
    (a17 : PySem.W.nsIn K mainGlobals "_law_whole" = some (some (.ref f17))) (l17 : K.lookup f17 = some ⟨oc17, od17, .func (PySem.W.fnOf "_law_whole" "_law_whole" (defArgs s__law_whole) (defBody s__law_whole) (defScope s__law_whole) .none kV17 dc17 pm17 an17 cd17 ct17), sl17⟩) (c17 : PySem.W.codeIn K cd17 "_law_whole" = true) (k17 : PySem.W.keepIn K (.ref f17) = true)
    {od18 an18 : Option Addr} {sl18 : Array (Option Value)} {oc18 kV18 dc18 pm18 cd18 ct18 : Value}
    (a18 : PySem.W.nsIn K mainGlobals "_law_low" = some (some (.ref f18))) (l18 : K.lookup f18 = some ⟨oc18, od18, .func (PySem.W.fnOf "_law_low" "_law_low" (defArgs s__law_low) (defBody s__law_low) (defScope s__law_low) .none kV18 dc18 pm18 an18 cd18 ct18), sl18⟩) (c18 : PySem.W.codeIn K cd18 "_law_low" = true) (k18 : PySem.W.keepIn K (.ref f18) = true)
    {od19 an19 : Option Addr} {sl19 : Array (Option Value)} {oc19 kV19 dc19 pm19 cd19 ct19 : Value}
    (a19 : PySem.W.nsIn K mainGlobals "_law_is_prime" = some (some (.ref f19))) (l19 : K.lookup f19 = some ⟨oc19, od19, .func (PySem.W.fnOf "_law_is_prime" "_law_is_prime" (defArgs s__law_is_prime) (defBody s__law_is_prime) (defScope s__law_is_prime) .none kV19 dc19 pm19 an19 cd19 ct19), sl19⟩) (c19 : PySem.W.codeIn K cd19 "_law_is_prime" = true) (k19 : PySem.W.keepIn K (.ref f19) = true)
    {od20 an20 : Option Addr} {sl20 : Array (Option Value)} {oc20 kV20 dc20 pm20 cd20 ct20 : Value}
    (a20 : PySem.W.nsIn K mainGlobals "_law_prime" = some (some (.ref f20))) (l20 : K.lookup f20 = some ⟨oc20, od20, .func (PySem.W.fnOf "_law_prime" "_law_prime" (defArgs s__law_prime) (defBody s__law_prime) (defScope s__law_prime) .none kV20 dc20 pm20 an20 cd20 ct20), sl20⟩) (c20 : PySem.W.codeIn K cd20 "_law_prime" = true) (k20 : PySem.W.keepIn K (.ref f20) = true)
    {od21 an21 : Option Addr} {sl21 : Array (Option Value)} {oc21 kV21 dc21 pm21 cd21 ct21 : Value}
    (a21 : PySem.W.nsIn K mainGlobals "_law_numbers" = some (some (.ref f21))) (l21 : K.lookup f21 = some ⟨oc21, od21, .func (PySem.W.fnOf "_law_numbers" "_law_numbers" (defArgs s__law_numbers) (defBody s__law_numbers) (defScope s__law_numbers) .none kV21 dc21 pm21 an21 cd21 ct21), sl21⟩) (c21 : PySem.W.codeIn K cd21 "_law_numbers" = true) (k21 : PySem.W.keepIn K (.ref f21) = true)
    {od22 an22 : Option Addr} {sl22 : Array (Option Value)} {oc22 kV22 dc22 pm22 cd22 ct22 : Value}
    (a22 : PySem.W.nsIn K mainGlobals "_law_plus" = some (some (.ref f22))) (l22 : K.lookup f22 = some ⟨oc22, od22, .func (PySem.W.fnOf "_law_plus" "_law_plus" (defArgs s__law_plus) (defBody s__law_plus) (defScope s__law_plus) .none kV22 dc22 pm22 an22 cd22 ct22), sl22⟩) (c22 : PySem.W.codeIn K cd22 "_law_plus" = true) (k22 : PySem.W.keepIn K (.ref f22) = true)
    {od23 an23 : Option Addr} {sl23 : Array (Option Value)} {oc23 kV23 dc23 pm23 cd23 ct23 : Value}
    (a23 : PySem.W.nsIn K mainGlobals "_law_nought" = some (some (.ref f23))) (l23 : K.lookup f23 = some ⟨oc23, od23, .func (PySem.W.fnOf "_law_nought" "_law_nought" (defArgs s__law_nought) (defBody s__law_nought) (defScope s__law_nought) .none kV23 dc23 pm23 an23 cd23 ct23), sl23⟩) (c23 : PySem.W.codeIn K cd23 "_law_nought" = true) (k23 : PySem.W.keepIn K (.ref f23) = true)
    {od24 an24 : Option Addr} {sl24 : Array (Option Value)} {oc24 kV24 dc24 pm24 cd24 ct24 : Value}
    (a24 : PySem.W.nsIn K mainGlobals "_law_unit" = some (some (.ref f24))) (l24 : K.lookup f24 = some ⟨oc24, od24, .func (PySem.W.fnOf "_law_unit" "_law_unit" (defArgs s__law_unit) (defBody s__law_unit) (defScope s__law_unit) .none kV24 dc24 pm24 an24 cd24 ct24), sl24⟩) (c24 : PySem.W.codeIn K cd24 "_law_unit" = true) (k24 : PySem.W.keepIn K (.ref f24) = true)
    {od25 an25 : Option Addr} {sl25 : Array (Option Value)} {oc25 kV25 dc25 pm25 cd25 ct25 : Value}
    (a25 : PySem.W.nsIn K mainGlobals "_law_number" = some (some (.ref f25))) (l25 : K.lookup f25 = some ⟨oc25, od25, .func (PySem.W.fnOf "_law_number" "_law_number" (defArgs s__law_number) (defBody s__law_number) (defScope s__law_number) .none kV25 dc25 pm25 an25 cd25 ct25), sl25⟩) (c25 : PySem.W.codeIn K cd25 "_law_number" = true) (k25 : PySem.W.keepIn K (.ref f25) = true)
    {od26 an26 : Option Addr} {sl26 : Array (Option Value)} {oc26 kV26 dc26 pm26 cd26 ct26 : Value}
    (a26 : PySem.W.nsIn K mainGlobals "_law_key" = some (some (.ref f26))) (l26 : K.lookup f26 = some ⟨oc26, od26, .func (PySem.W.fnOf "_law_key" "_law_key" (defArgs s__law_key) (defBody s__law_key) (defScope s__law_key) .none kV26 dc26 pm26 an26 cd26 ct26), sl26⟩) (c26 : PySem.W.codeIn K cd26 "_law_key" = true) (k26 : PySem.W.keepIn K (.ref f26) = true)
    {od27 an27 : Option Addr} {sl27 : Array (Option Value)} {oc27 kV27 dc27 pm27 cd27 ct27 : Value}
    (a27 : PySem.W.nsIn K mainGlobals "_law_sum" = some (some (.ref f27))) (l27 : K.lookup f27 = some ⟨oc27, od27, .func (PySem.W.fnOf "_law_sum" "_law_sum" (defArgs s__law_sum) (defBody s__law_sum) (defScope s__law_sum) .none kV27 dc27 pm27 an27 cd27 ct27), sl27⟩) (c27 : PySem.W.codeIn K cd27 "_law_sum" = true) (k27 : PySem.W.keepIn K (.ref f27) = true)
    {od28 an28 : Option Addr} {sl28 : Array (Option Value)} {oc28 kV28 dc28 pm28 cd28 ct28 : Value}
    (a28 : PySem.W.nsIn K mainGlobals "_law_number_like" = some (some (.ref f28))) (l28 : K.lookup f28 = some ⟨oc28, od28, .func (PySem.W.fnOf "_law_number_like" "_law_number_like" (defArgs s__law_number_like) (defBody s__law_number_like) (defScope s__law_number_like) .none kV28 dc28 pm28 an28 cd28 ct28), sl28⟩) (c28 : PySem.W.codeIn K cd28 "_law_number_like" = true) (k28 : PySem.W.keepIn K (.ref f28) = true)
    {od29 an29 : Option Addr} {sl29 : Array (Option Value)} {oc29 kV29 dc29 pm29 cd29 ct29 : Value}
    (a29 : PySem.W.nsIn K mainGlobals "_law_sum_like" = some (some (.ref f29))) (l29 : K.lookup f29 = some ⟨oc29, od29, .func (PySem.W.fnOf "_law_sum_like" "_law_sum_like" (defArgs s__law_sum_like) (defBody s__law_sum_like) (defScope s__law_sum_like) .none kV29 dc29 pm29 an29 cd29 ct29), sl29⟩) (c29 : PySem.W.codeIn K cd29 "_law_sum_like" = true) (k29 : PySem.W.keepIn K (.ref f29) = true)
    {od30 an30 : Option Addr} {sl30 : Array (Option Value)} {oc30 kV30 dc30 pm30 cd30 ct30 : Value}
    (a30 : PySem.W.nsIn K mainGlobals "_law_exponents" = some (some (.ref f30))) (l30 : K.lookup f30 = some ⟨oc30, od30, .func (PySem.W.fnOf "_law_exponents" "_law_exponents" (defArgs s__law_exponents) (defBody s__law_exponents) (defScope s__law_exponents) .none kV30 dc30 pm30 an30 cd30 ct30), sl30⟩) (c30 : PySem.W.codeIn K cd30 "_law_exponents" = true) (k30 : PySem.W.keepIn K (.ref f30) = true)
    {od31 an31 : Option Addr} {sl31 : Array (Option Value)} {oc31 kV31 dc31 pm31 cd31 ct31 : Value}
    (a31 : PySem.W.nsIn K mainGlobals "_law_parts" = some (some (.ref f31))) (l31 : K.lookup f31 = some ⟨oc31, od31, .func (PySem.W.fnOf "_law_parts" "_law_parts" (defArgs s__law_parts) (defBody s__law_parts) (defScope s__law_parts) .none kV31 dc31 pm31 an31 cd31 ct31), sl31⟩) (c31 : PySem.W.codeIn K cd31 "_law_parts" = true) (k31 : PySem.W.keepIn K (.ref f31) = true)
    {od32 an32 : Option Addr} {sl32 : Array (Option Value)} {oc32 kV32 dc32 pm32 cd32 ct32 : Value}
    (a32 : PySem.W.nsIn K mainGlobals "_law_ring" = some (some (.ref f32))) (l32 : K.lookup f32 = some ⟨oc32, od32, .func (PySem.W.fnOf "_law_ring" "_law_ring" (defArgs s__law_ring) (defBody s__law_ring) (defScope s__law_ring) .none kV32 dc32 pm32 an32 cd32 ct32), sl32⟩) (c32 : PySem.W.codeIn K cd32 "_law_ring" = true) (k32 : PySem.W.keepIn K (.ref f32) = true)
    {od33 an33 : Option Addr} {sl33 : Array (Option Value)} {oc33 kV33 dc33 pm33 cd33 ct33 : Value}
    (a33 : PySem.W.nsIn K mainGlobals "_law_spoilt" = some (some (.ref f33))) (l33 : K.lookup f33 = some ⟨oc33, od33, .func (PySem.W.fnOf "_law_spoilt" "_law_spoilt" (defArgs s__law_spoilt) (defBody s__law_spoilt) (defScope s__law_spoilt) .none kV33 dc33 pm33 an33 cd33 ct33), sl33⟩) (c33 : PySem.W.codeIn K cd33 "_law_spoilt" = true) (k33 : PySem.W.keepIn K (.ref f33) = true)
    {od34 an34 : Option Addr} {sl34 : Array (Option Value)} {oc34 kV34 dc34 pm34 cd34 ct34 : Value}
    (a34 : PySem.W.nsIn K mainGlobals "law" = some (some (.ref f34))) (l34 : K.lookup f34 = some ⟨oc34, od34, .func (PySem.W.fnOf "law" "law" (defArgs s_law) (defBody s_law) (defScope s_law) .none kV34 dc34 pm34 an34 cd34 ct34), sl34⟩) (c34 : PySem.W.codeIn K cd34 "law" = true) (k34 : PySem.W.keepIn K (.ref f34) = true)
    {C_Fractions : Addr} (aC_Fractions : PySem.W.nsIn K mainGlobals "Fractions" = some (some (.ref C_Fractions))) (pg_Fractions : PySem.W.plainGet K C_Fractions Str.empty = true) (hd_Fractions : PySem.W.hasDictIn K C_Fractions = true) (po_Fractions : PySem.W.plainOver K C_Fractions = true) (sa_Fractions : PySem.W.findIn K (.ref C_Fractions) "__setattr__" = some (some (.builtin "object.__setattr__"))) (mk_Fractions : PySem.W.makesIn K C_Fractions = true) (kc_Fractions : PySem.W.keepIn K (.ref C_Fractions) = true)
    (in_Fractions : PySem.W.findIn K (.ref C_Fractions) "__init__" = some (some (.builtin "object.__init__")))
    {f_Fractions_is_number : Addr} {od_Fractions_is_number an_Fractions_is_number : Option Addr} {sl_Fractions_is_number : Array (Option Value)} {oc_Fractions_is_number kV_Fractions_is_number dc_Fractions_is_number pm_Fractions_is_number cd_Fractions_is_number ct_Fractions_is_number : Value}
    (me_Fractions_is_number : PySem.W.findIn K (.ref C_Fractions) "is_number" = some (some (.ref f_Fractions_is_number))) (fn_Fractions_is_number : PySem.W.isFn K (.ref f_Fractions_is_number) = true) (l_Fractions_is_number : K.lookup f_Fractions_is_number = some ⟨oc_Fractions_is_number, od_Fractions_is_number, .func (PySem.W.fnOf "is_number" "Fractions.is_number" (defArgs s_Fractions_is_number) (defBody s_Fractions_is_number) (defScope s_Fractions_is_number) .none kV_Fractions_is_number dc_Fractions_is_number pm_Fractions_is_number an_Fractions_is_number cd_Fractions_is_number ct_Fractions_is_number), sl_Fractions_is_number⟩) (c_Fractions_is_number : PySem.W.codeIn K cd_Fractions_is_number "Fractions.is_number" = true) (k_Fractions_is_number : PySem.W.keepIn K (.ref f_Fractions_is_number) = true)
    {Td_Fractions_of : Addr} {dc_d_Fractions_of : Value} {dd_d_Fractions_of : Option Addr} {tkd_Fractions_of : Tok} {nd_Fractions_of : Nat} {sld_Fractions_of : Array (Option Value)}
    {f_Fractions_of : Addr} {od_Fractions_of an_Fractions_of : Option Addr} {sl_Fractions_of : Array (Option Value)} {oc_Fractions_of kV_Fractions_of dc_Fractions_of pm_Fractions_of cd_Fractions_of ct_Fractions_of : Value}
    (me_Fractions_of : PySem.W.findIn K (.ref C_Fractions) "of" = some (some (.ref f_Fractions_of))) (fn_Fractions_of : PySem.W.isFn K (.ref f_Fractions_of) = true) (l_Fractions_of : K.lookup f_Fractions_of = some ⟨oc_Fractions_of, od_Fractions_of, .func (PySem.W.fnOf "of" "Fractions.of" (defArgs s_Fractions_of) (defBody s_Fractions_of) (defScope s_Fractions_of) (.ref Td_Fractions_of) kV_Fractions_of dc_Fractions_of pm_Fractions_of an_Fractions_of cd_Fractions_of ct_Fractions_of), sl_Fractions_of⟩) (c_Fractions_of : PySem.W.codeIn K cd_Fractions_of "Fractions.of" = true) (k_Fractions_of : PySem.W.keepIn K (.ref f_Fractions_of) = true)
    (ld_Fractions_of : K.lookup Td_Fractions_of = some ⟨dc_d_Fractions_of, dd_d_Fractions_of, .seq #[.int 1 tkd_Fractions_of] nd_Fractions_of, sld_Fractions_of⟩)
    {C_Rests : Addr} (aC_Rests : PySem.W.nsIn K mainGlobals "Rests" = some (some (.ref C_Rests))) (pg_Rests : PySem.W.plainGet K C_Rests Str.empty = true) (hd_Rests : PySem.W.hasDictIn K C_Rests = true) (po_Rests : PySem.W.plainOver K C_Rests = true) (sa_Rests : PySem.W.findIn K (.ref C_Rests) "__setattr__" = some (some (.builtin "object.__setattr__"))) (mk_Rests : PySem.W.makesIn K C_Rests = true) (kc_Rests : PySem.W.keepIn K (.ref C_Rests) = true)
    (na_Rests_modulus : PySem.W.findIn K (.ref C_Rests) "modulus" = some none)
    {f_Rests___init__ : Addr} {od_Rests___init__ an_Rests___init__ : Option Addr} {sl_Rests___init__ : Array (Option Value)} {oc_Rests___init__ kV_Rests___init__ dc_Rests___init__ pm_Rests___init__ cd_Rests___init__ ct_Rests___init__ : Value}
    (me_Rests___init__ : PySem.W.findIn K (.ref C_Rests) "__init__" = some (some (.ref f_Rests___init__))) (fn_Rests___init__ : PySem.W.isFn K (.ref f_Rests___init__) = true) (l_Rests___init__ : K.lookup f_Rests___init__ = some ⟨oc_Rests___init__, od_Rests___init__, .func (PySem.W.fnOf "__init__" "Rests.__init__" (defArgs s_Rests___init__) (defBody s_Rests___init__) (defScope s_Rests___init__) .none kV_Rests___init__ dc_Rests___init__ pm_Rests___init__ an_Rests___init__ cd_Rests___init__ ct_Rests___init__), sl_Rests___init__⟩) (c_Rests___init__ : PySem.W.codeIn K cd_Rests___init__ "Rests.__init__" = true) (k_Rests___init__ : PySem.W.keepIn K (.ref f_Rests___init__) = true)
    {f_Rests_is_number : Addr} {od_Rests_is_number an_Rests_is_number : Option Addr} {sl_Rests_is_number : Array (Option Value)} {oc_Rests_is_number kV_Rests_is_number dc_Rests_is_number pm_Rests_is_number cd_Rests_is_number ct_Rests_is_number : Value}
    (me_Rests_is_number : PySem.W.findIn K (.ref C_Rests) "is_number" = some (some (.ref f_Rests_is_number))) (fn_Rests_is_number : PySem.W.isFn K (.ref f_Rests_is_number) = true) (l_Rests_is_number : K.lookup f_Rests_is_number = some ⟨oc_Rests_is_number, od_Rests_is_number, .func (PySem.W.fnOf "is_number" "Rests.is_number" (defArgs s_Rests_is_number) (defBody s_Rests_is_number) (defScope s_Rests_is_number) .none kV_Rests_is_number dc_Rests_is_number pm_Rests_is_number an_Rests_is_number cd_Rests_is_number ct_Rests_is_number), sl_Rests_is_number⟩) (c_Rests_is_number : PySem.W.codeIn K cd_Rests_is_number "Rests.is_number" = true) (k_Rests_is_number : PySem.W.keepIn K (.ref f_Rests_is_number) = true)
    {Td_Rests_of : Addr} {dc_d_Rests_of : Value} {dd_d_Rests_of : Option Addr} {tkd_Rests_of : Tok} {nd_Rests_of : Nat} {sld_Rests_of : Array (Option Value)}
    {f_Rests_of : Addr} {od_Rests_of an_Rests_of : Option Addr} {sl_Rests_of : Array (Option Value)} {oc_Rests_of kV_Rests_of dc_Rests_of pm_Rests_of cd_Rests_of ct_Rests_of : Value}
    (me_Rests_of : PySem.W.findIn K (.ref C_Rests) "of" = some (some (.ref f_Rests_of))) (fn_Rests_of : PySem.W.isFn K (.ref f_Rests_of) = true) (l_Rests_of : K.lookup f_Rests_of = some ⟨oc_Rests_of, od_Rests_of, .func (PySem.W.fnOf "of" "Rests.of" (defArgs s_Rests_of) (defBody s_Rests_of) (defScope s_Rests_of) (.ref Td_Rests_of) kV_Rests_of dc_Rests_of pm_Rests_of an_Rests_of cd_Rests_of ct_Rests_of), sl_Rests_of⟩) (c_Rests_of : PySem.W.codeIn K cd_Rests_of "Rests.of" = true) (k_Rests_of : PySem.W.keepIn K (.ref f_Rests_of) = true)
    (ld_Rests_of : K.lookup Td_Rests_of = some ⟨dc_d_Rests_of, dd_d_Rests_of, .seq #[.int 1 tkd_Rests_of] nd_Rests_of, sld_Rests_of⟩)
    {C_Ring : Addr} (aC_Ring : PySem.W.nsIn K mainGlobals "Ring" = some (some (.ref C_Ring))) (pg_Ring : PySem.W.plainGet K C_Ring Str.empty = true) (hd_Ring : PySem.W.hasDictIn K C_Ring = true) (po_Ring : PySem.W.plainOver K C_Ring = true) (sa_Ring : PySem.W.findIn K (.ref C_Ring) "__setattr__" = some (some (.builtin "object.__setattr__"))) (mk_Ring : PySem.W.makesIn K C_Ring = true) (kc_Ring : PySem.W.keepIn K (.ref C_Ring) = true)
    (na_Ring_kind : PySem.W.findIn K (.ref C_Ring) "kind" = some none)
    (na_Ring_width : PySem.W.findIn K (.ref C_Ring) "width" = some none)
    {f_Ring___init__ : Addr} {od_Ring___init__ an_Ring___init__ : Option Addr} {sl_Ring___init__ : Array (Option Value)} {oc_Ring___init__ kV_Ring___init__ dc_Ring___init__ pm_Ring___init__ cd_Ring___init__ ct_Ring___init__ : Value}
    (me_Ring___init__ : PySem.W.findIn K (.ref C_Ring) "__init__" = some (some (.ref f_Ring___init__))) (fn_Ring___init__ : PySem.W.isFn K (.ref f_Ring___init__) = true) (l_Ring___init__ : K.lookup f_Ring___init__ = some ⟨oc_Ring___init__, od_Ring___init__, .func (PySem.W.fnOf "__init__" "Ring.__init__" (defArgs s_Ring___init__) (defBody s_Ring___init__) (defScope s_Ring___init__) .none kV_Ring___init__ dc_Ring___init__ pm_Ring___init__ an_Ring___init__ cd_Ring___init__ ct_Ring___init__), sl_Ring___init__⟩) (c_Ring___init__ : PySem.W.codeIn K cd_Ring___init__ "Ring.__init__" = true) (k_Ring___init__ : PySem.W.keepIn K (.ref f_Ring___init__) = true)
    {f_Ring_numbers : Addr} {od_Ring_numbers an_Ring_numbers : Option Addr} {sl_Ring_numbers : Array (Option Value)} {oc_Ring_numbers kV_Ring_numbers dc_Ring_numbers pm_Ring_numbers cd_Ring_numbers ct_Ring_numbers : Value}
    (me_Ring_numbers : PySem.W.findIn K (.ref C_Ring) "numbers" = some (some (.ref f_Ring_numbers))) (fn_Ring_numbers : PySem.W.isFn K (.ref f_Ring_numbers) = true) (l_Ring_numbers : K.lookup f_Ring_numbers = some ⟨oc_Ring_numbers, od_Ring_numbers, .func (PySem.W.fnOf "numbers" "Ring.numbers" (defArgs s_Ring_numbers) (defBody s_Ring_numbers) (defScope s_Ring_numbers) .none kV_Ring_numbers dc_Ring_numbers pm_Ring_numbers an_Ring_numbers cd_Ring_numbers ct_Ring_numbers), sl_Ring_numbers⟩) (c_Ring_numbers : PySem.W.codeIn K cd_Ring_numbers "Ring.numbers" = true) (k_Ring_numbers : PySem.W.keepIn K (.ref f_Ring_numbers) = true)
    {f_Ring_letters : Addr} {od_Ring_letters an_Ring_letters : Option Addr} {sl_Ring_letters : Array (Option Value)} {oc_Ring_letters kV_Ring_letters dc_Ring_letters pm_Ring_letters cd_Ring_letters ct_Ring_letters : Value}
    (me_Ring_letters : PySem.W.findIn K (.ref C_Ring) "letters" = some (some (.ref f_Ring_letters))) (fn_Ring_letters : PySem.W.isFn K (.ref f_Ring_letters) = true) (l_Ring_letters : K.lookup f_Ring_letters = some ⟨oc_Ring_letters, od_Ring_letters, .func (PySem.W.fnOf "letters" "Ring.letters" (defArgs s_Ring_letters) (defBody s_Ring_letters) (defScope s_Ring_letters) .none kV_Ring_letters dc_Ring_letters pm_Ring_letters an_Ring_letters cd_Ring_letters ct_Ring_letters), sl_Ring_letters⟩) (c_Ring_letters : PySem.W.codeIn K cd_Ring_letters "Ring.letters" = true) (k_Ring_letters : PySem.W.keepIn K (.ref f_Ring_letters) = true)
    {C_NoNumber : Addr} (aC_NoNumber : PySem.W.nsIn K mainGlobals "NoNumber" = some (some (.ref C_NoNumber)))
    (ek_NoNumber : PySem.W.excIn K C_NoNumber veTail "ValueError.__new__" = true) (ga_NoNumber : PySem.W.findIn K (.ref C_NoNumber) "__getattribute__" = some (some (.builtin "BaseException.__getattribute__"))) (gt_NoNumber : PySem.W.findIn K (.ref C_NoNumber) "__getattr__" = some none) (ca_NoNumber : PySem.W.findIn K (.ref C_NoNumber) "__class__" = some (some (.builtin "object.__class__"))) (mo_NoNumber : PySem.W.mroIn K C_NoNumber (.type "object") = some true) (mb_NoNumber : PySem.W.mroIn K C_NoNumber (.type "BaseException") = some true) (dg_NoNumber : PySem.W.specialIn K (.builtin "object.__class__") "__get__" = some (some (.builtin "getset_descriptor.__get__"))) (dt_NoNumber : PySem.W.takesIn K (.builtin "object.__class__") = some true)
    {C_NoRing : Addr} (aC_NoRing : PySem.W.nsIn K mainGlobals "NoRing" = some (some (.ref C_NoRing)))
    (ek_NoRing : PySem.W.excIn K C_NoRing veTail "ValueError.__new__" = true) (ga_NoRing : PySem.W.findIn K (.ref C_NoRing) "__getattribute__" = some (some (.builtin "BaseException.__getattribute__"))) (gt_NoRing : PySem.W.findIn K (.ref C_NoRing) "__getattr__" = some none) (ca_NoRing : PySem.W.findIn K (.ref C_NoRing) "__class__" = some (some (.builtin "object.__class__"))) (mo_NoRing : PySem.W.mroIn K C_NoRing (.type "object") = some true) (mb_NoRing : PySem.W.mroIn K C_NoRing (.type "BaseException") = some true) (dg_NoRing : PySem.W.specialIn K (.builtin "object.__class__") "__get__" = some (some (.builtin "getset_descriptor.__get__"))) (dt_NoRing : PySem.W.takesIn K (.builtin "object.__class__") = some true)
    {tk_LEAST_PRIME : Tok} (g_LEAST_PRIME : PySem.W.nsIn K mainGlobals "LEAST_PRIME" = some (some (.int 2 tk_LEAST_PRIME)))
    {tk_GREATEST_PRIME : Tok} (g_GREATEST_PRIME : PySem.W.nsIn K mainGlobals "GREATEST_PRIME" = some (some (.int 9973 tk_GREATEST_PRIME)))
    {tk_MOST_LETTERS : Tok} (g_MOST_LETTERS : PySem.W.nsIn K mainGlobals "MOST_LETTERS" = some (some (.int 4 tk_MOST_LETTERS)))
    (z0 : PySem.W.nsIn K mainGlobals "len" = some none) (z1 : PySem.W.nsIn K mainGlobals "range" = some none) (z2 : PySem.W.nsIn K mainGlobals "zip" = some none) (z3 : PySem.W.nsIn K mainGlobals "all" = some none) (z4 : PySem.W.nsIn K mainGlobals "sum" = some none) (z5 : PySem.W.nsIn K mainGlobals "max" = some none) (z6 : PySem.W.nsIn K mainGlobals "min" = some none) (z7 : PySem.W.nsIn K mainGlobals "abs" = some none) (z8 : PySem.W.nsIn K mainGlobals "tuple" = some none) (z9 : PySem.W.nsIn K mainGlobals "list" = some none) (z10 : PySem.W.nsIn K mainGlobals "int" = some none) (z11 : PySem.W.nsIn K mainGlobals "bool" = some none) (z12 : PySem.W.nsIn K mainGlobals "isinstance" = some none) (z13 : PySem.W.nsIn K mainGlobals "enumerate" = some none) (z14 : PySem.W.nsIn K mainGlobals "sorted" = some none) (z15 : PySem.W.nsIn K mainGlobals "set" = some none) (z16 : PySem.W.nsIn K mainGlobals "str" = some none) :
    ∃ fd : FuncData, (∀ (s : Shared) (v : Value), BindsTo s fd ⟨[v], []⟩ [("_law_script", v)]) ∧ ∀ base : Heap, K.In base → base.Ns mainGlobals mg → FnOk l.prog w K mg base CX0 7 fa fd ["_law_script"] (spLaw K) := by
  have e := hfa.symm.trans (PySem.W.mg_of X G a34)
  cases e
  have T : Blt mg := ⟨PySem.W.mg_none_of X G z0, PySem.W.mg_none_of X G z1, PySem.W.mg_none_of X G z2, PySem.W.mg_none_of X G z3, PySem.W.mg_none_of X G z4, PySem.W.mg_none_of X G z5, PySem.W.mg_none_of X G z6, PySem.W.mg_none_of X G z7, PySem.W.mg_none_of X G z8, PySem.W.mg_none_of X G z9, PySem.W.mg_none_of X G z10, PySem.W.mg_none_of X G z11, PySem.W.mg_none_of X G z12, PySem.W.mg_none_of X G z13, PySem.W.mg_none_of X G z14, PySem.W.mg_none_of X G z15, PySem.W.mg_none_of X G z16⟩
  have F0 := fun_mk (st := s_is_whole_number) l0 c0 k0
  have b0 := F0.binds (ps := ["thing"]) fun _ _ _ _ _ _ us hl => match us, hl with | [_], _ => rfl
  have F1 := fun_mk (st := s_is_pair) l1 c1 k1
  have b1 := F1.binds (ps := ["thing"]) fun _ _ _ _ _ _ us hl => match us, hl with | [_], _ => rfl
  have F2 := fun_mk (st := s_is_prime) l2 c2 k2
  have b2 := F2.binds (ps := ["whole"]) fun _ _ _ _ _ _ us hl => match us, hl with | [_], _ => rfl
  have F3 := fun_mk (st := s_greatest_divisor) l3 c3 k3
  have b3 := F3.binds (ps := ["one", "other"]) fun _ _ _ _ _ _ us hl => match us, hl with | [_, _], _ => rfl
  have F4 := fun_mk (st := s_inverse) l4 c4 k4
  have b4 := F4.binds (ps := ["whole", "prime"]) fun _ _ _ _ _ _ us hl => match us, hl with | [_, _], _ => rfl
  have F5 := fun_mk (st := s_is_product) l5 c5 k5
  have b5 := F5.binds (ps := ["thing", "letters"]) fun _ _ _ _ _ _ us hl => match us, hl with | [_, _], _ => rfl
  have F6 := fun_mk (st := s_degree) l6 c6 k6
  have b6 := F6.binds (ps := ["one"]) fun _ _ _ _ _ _ us hl => match us, hl with | [_], _ => rfl
  have F7 := fun_mk (st := s_height) l7 c7 k7
  have b7 := F7.binds (ps := ["one"]) fun _ _ _ _ _ _ us hl => match us, hl with | [_], _ => rfl
  have F8 := fun_mk (st := s_is_above) l8 c8 k8
  have b8 := F8.binds (ps := ["one", "other"]) fun _ _ _ _ _ _ us hl => match us, hl with | [_, _], _ => rfl
  have F9 := fun_mk (st := s_is_sum) l9 c9 k9
  have b9 := F9.binds (ps := ["ring", "thing"]) fun _ _ _ _ _ _ us hl => match us, hl with | [_, _], _ => rfl
  have F10 := fun_mk (st := s_is_part) l10 c10 k10
  have b10 := F10.binds (ps := ["ring", "thing"]) fun _ _ _ _ _ _ us hl => match us, hl with | [_, _], _ => rfl
  have F11 := fun_mk (st := s__law_truth) l11 c11 k11
  have b11 := F11.binds (ps := ["_law_found", "_law_due"]) fun _ _ _ _ _ _ us hl => match us, hl with | [_, _], _ => rfl
  have F12 := fun_mk (st := s__law_cell) l12 c12 k12
  have b12 := F12.binds (ps := ["_law_script", "_law_k"]) fun _ _ _ _ _ _ us hl => match us, hl with | [_, _], _ => rfl
  have F13 := fun_mk (st := s__law_bag) l13 c13 k13
  have b13 := F13.binds (ps := ["_law_script", "_law_at"]) fun _ _ _ _ _ _ us hl => match us, hl with | [_, _], _ => rfl
  have F14 := fun_mk (st := s__law_take) l14 c14 k14
  have b14 := F14.binds (ps := ["_law_bag_here", "_law_many"]) fun _ _ _ _ _ _ us hl => match us, hl with | [_, _], _ => rfl
  have F15 := fun_mk (st := s__law_great) l15 c15 k15
  have b15 := F15.binds (ps := ["_law_bag_here"]) fun _ _ _ _ _ _ us hl => match us, hl with | [_], _ => rfl
  have F16 := fun_mk (st := s__law_signed) l16 c16 k16
  have b16 := F16.binds (ps := ["_law_bag_here"]) fun _ _ _ _ _ _ us hl => match us, hl with | [_], _ => rfl
  have F17 := fun_mk (st := s__law_whole) l17 c17 k17
  have b17 := F17.binds (ps := ["_law_found"]) fun _ _ _ _ _ _ us hl => match us, hl with | [_], _ => rfl
  have F18 := fun_mk (st := s__law_low) l18 c18 k18
  have b18 := F18.binds (ps := ["_law_top", "_law_bottom"]) fun _ _ _ _ _ _ us hl => match us, hl with | [_, _], _ => rfl
  have F19 := fun_mk (st := s__law_is_prime) l19 c19 k19
  have b19 := F19.binds (ps := ["_law_number_here"]) fun _ _ _ _ _ _ us hl => match us, hl with | [_], _ => rfl
  have F20 := fun_mk (st := s__law_prime) l20 c20 k20
  have b20 := F20.binds (ps := ["_law_bag_here"]) fun _ _ _ _ _ _ us hl => match us, hl with | [_], _ => rfl
  have F21 := fun_mk (st := s__law_numbers) l21 c21 k21
  have b21 := F21.binds (ps := ["_law_prime_here"]) fun _ _ _ _ _ _ us hl => match us, hl with | [_], _ => rfl
  have F22 := fun_mk (st := s__law_plus) l22 c22 k22
  have b22 := F22.binds (ps := ["_law_prime_here", "_law_one", "_law_other"]) fun _ _ _ _ _ _ us hl => match us, hl with | [_, _, _], _ => rfl
  have F23 := fun_mk (st := s__law_nought) l23 c23 k23
  have b23 := F23.binds (ps := ["_law_prime_here"]) fun _ _ _ _ _ _ us hl => match us, hl with | [_], _ => rfl
  have F24 := fun_mk (st := s__law_unit) l24 c24 k24
  have b24 := F24.binds (ps := ["_law_prime_here"]) fun _ _ _ _ _ _ us hl => match us, hl with | [_], _ => rfl
  have F25 := fun_mk (st := s__law_number) l25 c25 k25
  have b25 := F25.binds (ps := ["_law_prime_here", "_law_bag_here", "_law_great_here"]) fun _ _ _ _ _ _ us hl => match us, hl with | [_, _, _], _ => rfl
  have F26 := fun_mk (st := s__law_key) l26 c26 k26
  have b26 := F26.binds (ps := ["_law_part"]) fun _ _ _ _ _ _ us hl => match us, hl with | [_], _ => rfl
  have F27 := fun_mk (st := s__law_sum) l27 c27 k27
  have b27 := F27.binds (ps := ["_law_prime_here", "_law_parts_here"]) fun _ _ _ _ _ _ us hl => match us, hl with | [_, _], _ => rfl
  have F28 := fun_mk (st := s__law_number_like) l28 c28 k28
  have b28 := F28.binds (ps := ["_law_prime_here", "_law_found"]) fun _ _ _ _ _ _ us hl => match us, hl with | [_, _], _ => rfl
  have F29 := fun_mk (st := s__law_sum_like) l29 c29 k29
  have b29 := F29.binds (ps := ["_law_prime_here", "_law_letters", "_law_found"]) fun _ _ _ _ _ _ us hl => match us, hl with | [_, _, _], _ => rfl
  have F30 := fun_mk (st := s__law_exponents) l30 c30 k30
  have b30 := F30.binds (ps := ["_law_letters", "_law_most", "_law_bag_here"]) fun _ _ _ _ _ _ us hl => match us, hl with | [_, _, _], _ => rfl
  have F31 := fun_mk (st := s__law_parts) l31 c31 k31
  have b31 := F31.binds (ps := ["_law_prime_here", "_law_letters", "_law_most", "_law_many", "_law_bag_here"]) fun _ _ _ _ _ _ us hl => match us, hl with | [_, _, _, _, _], _ => rfl
  have F32 := fun_mk (st := s__law_ring) l32 c32 k32
  have b32 := F32.binds (ps := ["_law_prime_here", "_law_letters"]) fun _ _ _ _ _ _ us hl => match us, hl with | [_, _], _ => rfl
  have F33 := fun_mk (st := s__law_spoilt) l33 c33 k33
  have b33 := F33.binds (ps := ["_law_prime_here", "_law_one", "_law_bag_here"]) fun _ _ _ _ _ _ us hl => match us, hl with | [_, _, _], _ => rfl
  have F34 := fun_mk (st := s_law) l34 c34 k34
  have b34 := F34.binds (ps := ["_law_script"]) fun _ _ _ _ _ _ us hl => match us, hl with | [_], _ => rfl
  refine ⟨PySem.W.fnOf "law" "law" (defArgs s_law) (defBody s_law) (defScope s_law) .none kV34 dc34 pm34 an34 cd34 ct34, fun s v => .of_eq rfl, fun base _ _ => ?_⟩
  have cl_Fractions : Cls K C_Fractions := ⟨pg_Fractions, hd_Fractions, po_Fractions, sa_Fractions⟩
  have A_Fractions := PySem.W.mg_of X G aC_Fractions
  have F_Fractions_is_number := fun_mk (st := s_Fractions_is_number) l_Fractions_is_number c_Fractions_is_number k_Fractions_is_number
  have b_Fractions_is_number := F_Fractions_is_number.binds (ps := ["self", "thing"]) fun _ _ _ _ _ _ us hl => match us, hl with | [_, _], _ => rfl
  have m_Fractions_is_number : Meth K C_Fractions "is_number" f_Fractions_is_number := ⟨me_Fractions_is_number, fn_Fractions_is_number, k_Fractions_is_number⟩
  have F_Fractions_of := funD_mk (st := s_Fractions_of) l_Fractions_of c_Fractions_of k_Fractions_of
  have b_Fractions_of : Binds K (PySem.W.fnOf "of" "Fractions.of" (defArgs s_Fractions_of) (defBody s_Fractions_of) (defScope s_Fractions_of) (.ref Td_Fractions_of) kV_Fractions_of dc_Fractions_of pm_Fractions_of an_Fractions_of cd_Fractions_of ct_Fractions_of) ["self", "top", "bottom"] [] := fun s us X hl => match us, hl with | [_, _, _], _ => BindsTo.of_defaults rfl (X _ _ ld_Fractions_of) rfl rfl rfl
  have bd_Fractions_of : Binds K (PySem.W.fnOf "of" "Fractions.of" (defArgs s_Fractions_of) (defBody s_Fractions_of) (defScope s_Fractions_of) (.ref Td_Fractions_of) kV_Fractions_of dc_Fractions_of pm_Fractions_of an_Fractions_of cd_Fractions_of ct_Fractions_of) ["self", "top", "bottom"] [.int 1 tkd_Fractions_of] := fun s us X hl => by
    obtain ⟨z1, z2, rfl⟩ := two_of hl
    exact BindsTo.of_defaults rfl (X _ _ ld_Fractions_of) rfl rfl rfl
  have m_Fractions_of : Meth K C_Fractions "of" f_Fractions_of := ⟨me_Fractions_of, fn_Fractions_of, k_Fractions_of⟩
  have cl_Rests : Cls K C_Rests := ⟨pg_Rests, hd_Rests, po_Rests, sa_Rests⟩
  have A_Rests := PySem.W.mg_of X G aC_Rests
  have F_Rests___init__ := fun_mk (st := s_Rests___init__) l_Rests___init__ c_Rests___init__ k_Rests___init__
  have b_Rests___init__ := F_Rests___init__.binds (ps := ["self", "prime"]) fun _ _ _ _ _ _ us hl => match us, hl with | [_, _], _ => rfl
  have m_Rests___init__ : Meth K C_Rests "__init__" f_Rests___init__ := ⟨me_Rests___init__, fn_Rests___init__, k_Rests___init__⟩
  have F_Rests_is_number := fun_mk (st := s_Rests_is_number) l_Rests_is_number c_Rests_is_number k_Rests_is_number
  have b_Rests_is_number := F_Rests_is_number.binds (ps := ["self", "thing"]) fun _ _ _ _ _ _ us hl => match us, hl with | [_, _], _ => rfl
  have m_Rests_is_number : Meth K C_Rests "is_number" f_Rests_is_number := ⟨me_Rests_is_number, fn_Rests_is_number, k_Rests_is_number⟩
  have F_Rests_of := funD_mk (st := s_Rests_of) l_Rests_of c_Rests_of k_Rests_of
  have b_Rests_of : Binds K (PySem.W.fnOf "of" "Rests.of" (defArgs s_Rests_of) (defBody s_Rests_of) (defScope s_Rests_of) (.ref Td_Rests_of) kV_Rests_of dc_Rests_of pm_Rests_of an_Rests_of cd_Rests_of ct_Rests_of) ["self", "top", "bottom"] [] := fun s us X hl => match us, hl with | [_, _, _], _ => BindsTo.of_defaults rfl (X _ _ ld_Rests_of) rfl rfl rfl
  have bd_Rests_of : Binds K (PySem.W.fnOf "of" "Rests.of" (defArgs s_Rests_of) (defBody s_Rests_of) (defScope s_Rests_of) (.ref Td_Rests_of) kV_Rests_of dc_Rests_of pm_Rests_of an_Rests_of cd_Rests_of ct_Rests_of) ["self", "top", "bottom"] [.int 1 tkd_Rests_of] := fun s us X hl => by
    obtain ⟨z1, z2, rfl⟩ := two_of hl
    exact BindsTo.of_defaults rfl (X _ _ ld_Rests_of) rfl rfl rfl
  have m_Rests_of : Meth K C_Rests "of" f_Rests_of := ⟨me_Rests_of, fn_Rests_of, k_Rests_of⟩
  have cl_Ring : Cls K C_Ring := ⟨pg_Ring, hd_Ring, po_Ring, sa_Ring⟩
  have A_Ring := PySem.W.mg_of X G aC_Ring
  have F_Ring___init__ := fun_mk (st := s_Ring___init__) l_Ring___init__ c_Ring___init__ k_Ring___init__
  have b_Ring___init__ := F_Ring___init__.binds (ps := ["self", "numbers", "letters"]) fun _ _ _ _ _ _ us hl => match us, hl with | [_, _, _], _ => rfl
  have m_Ring___init__ : Meth K C_Ring "__init__" f_Ring___init__ := ⟨me_Ring___init__, fn_Ring___init__, k_Ring___init__⟩
  have F_Ring_numbers := fun_mk (st := s_Ring_numbers) l_Ring_numbers c_Ring_numbers k_Ring_numbers
  have b_Ring_numbers := F_Ring_numbers.binds (ps := ["self"]) fun _ _ _ _ _ _ us hl => match us, hl with | [_], _ => rfl
  have m_Ring_numbers : Meth K C_Ring "numbers" f_Ring_numbers := ⟨me_Ring_numbers, fn_Ring_numbers, k_Ring_numbers⟩
  have F_Ring_letters := fun_mk (st := s_Ring_letters) l_Ring_letters c_Ring_letters k_Ring_letters
  have b_Ring_letters := F_Ring_letters.binds (ps := ["self"]) fun _ _ _ _ _ _ us hl => match us, hl with | [_], _ => rfl
  have m_Ring_letters : Meth K C_Ring "letters" f_Ring_letters := ⟨me_Ring_letters, fn_Ring_letters, k_Ring_letters⟩
  have A_NoNumber := PySem.W.mg_of X G aC_NoNumber
  have x_NoNumber : XCl K C_NoNumber := ⟨ek_NoNumber, ga_NoNumber, gt_NoNumber, ca_NoNumber, mo_NoNumber, mb_NoNumber, dg_NoNumber, dt_NoNumber⟩
  have A_NoRing := PySem.W.mg_of X G aC_NoRing
  have x_NoRing : XCl K C_NoRing := ⟨ek_NoRing, ga_NoRing, gt_NoRing, ca_NoRing, mo_NoRing, mb_NoRing, dg_NoRing, dt_NoRing⟩
  have g_LEAST_PRIME := PySem.W.mg_of X G g_LEAST_PRIME
  have g_GREATEST_PRIME := PySem.W.mg_of X G g_GREATEST_PRIME
  have g_MOST_LETTERS := PySem.W.mg_of X G g_MOST_LETTERS
  have G_law_cell : FnB l.prog w K mg base 1 "_law_cell" (spCell K) := ⟨_, _, _, ok_cell F12 T, PySem.W.mg_of X G a12, k12, b12⟩
  have G_law_bag : FnB l.prog w K mg base 2 "_law_bag" (spBag K) := ⟨_, _, _, ok_bag F13 G_law_cell, PySem.W.mg_of X G a13, k13, b13⟩
  have G_law_take : FnB l.prog w K mg base 1 "_law_take" spTake := ⟨_, _, _, ok_take F14, PySem.W.mg_of X G a14, k14, b14⟩
  have G_law_whole : FnB l.prog w K mg base 1 "_law_whole" (spWhole K) := ⟨_, _, _, ok_whole F17 T, PySem.W.mg_of X G a17, k17, b17⟩
  have G_law_great : FnB l.prog w K mg base 2 "_law_great" spGreat := ⟨_, _, _, ok_great F15 G_law_take, PySem.W.mg_of X G a15, k15, b15⟩
  have G_law_signed : FnB l.prog w K mg base 3 "_law_signed" spSigned := ⟨_, _, _, ok_signed F16 G_law_take G_law_great, PySem.W.mg_of X G a16, k16, b16⟩
  have G_law_low : FnB l.prog w K mg base 1 "_law_low" spLow := ⟨_, _, _, ok_low F18 T, PySem.W.mg_of X G a18, k18, b18⟩
  have G_law_is_prime : FnB l.prog w K mg base 1 "_law_is_prime" spLawPrime := ⟨_, _, _, ok_lawprime F19 T, PySem.W.mg_of X G a19, k19, b19⟩
  have G_law_prime : FnB l.prog w K mg base 2 "_law_prime" spPrime := ⟨_, _, _, ok_prime F20 G_law_take G_law_is_prime, PySem.W.mg_of X G a20, k20, b20⟩
  have G_law_truth : FnB l.prog w K mg base 1 "_law_truth" spTruth := ⟨_, _, _, ok_truth F11 T, PySem.W.mg_of X G a11, k11, b11⟩
  have Gis_prime : FnB l.prog w K mg base 1 "is_prime" spIsPrime := ⟨_, _, _, ok_isprime F2 g_LEAST_PRIME g_GREATEST_PRIME, PySem.W.mg_of X G a2, k2, b2⟩
  have Ggreatest_divisor : FnB l.prog w K mg base 1 "greatest_divisor" spGcd := ⟨_, _, _, ok_gcd F3 T, PySem.W.mg_of X G a3, k3, b3⟩
  have Ginverse : FnB l.prog w K mg base 1 "inverse" spInv := ⟨_, _, _, ok_inverse F4, PySem.W.mg_of X G a4, k4, b4⟩
  have Gdegree : FnB l.prog w K mg base 1 "degree" (spDeg K) := ⟨_, _, _, ok_degree F6 T, PySem.W.mg_of X G a6, k6, b6⟩
  have Gheight : FnB l.prog w K mg base 2 "height" (spHeight K) := ⟨_, _, _, ok_height F7 Gdegree, PySem.W.mg_of X G a7, k7, b7⟩
  have Gis_above : FnB l.prog w K mg base 3 "is_above" (spAbove K) := ⟨_, _, _, ok_above F8 Gheight, PySem.W.mg_of X G a8, k8, b8⟩
  have MRests : MkB l.prog w K mg base 2 C_Rests "Rests" (spRInit C_Rests) := ⟨⟨_, _, _, ok_rinit F_Rests___init__ cl_Rests na_Rests_modulus Gis_prime, ⟨mk_Rests, me_Rests___init__, fn_Rests___init__, kc_Rests⟩, b_Rests___init__⟩, A_Rests⟩
  have G_law_numbers : FnB l.prog w K mg base 4 "_law_numbers" (spNums C_Fractions C_Rests) := ⟨_, _, _, ok_nums F21 ⟨mk_Fractions, in_Fractions, kc_Fractions⟩ A_Fractions MRests, PySem.W.mg_of X G a21, k21, b21⟩
  have G_law_number : FnB l.prog w K mg base 4 "_law_number" spNumber := ⟨_, _, _, ok_number F25 T G_law_take G_law_great G_law_signed G_law_low, PySem.W.mg_of X G a25, k25, b25⟩
  have G_law_number_like : FnB l.prog w K mg base 2 "_law_number_like" (spLike K) := ⟨_, _, _, ok_like F28 T G_law_whole G_law_low, PySem.W.mg_of X G a28, k28, b28⟩
  have G_law_plus : FnB l.prog w K mg base 2 "_law_plus" (spLOp addN) := ⟨_, _, _, ok_lplus F22 G_law_low, PySem.W.mg_of X G a22, k22, b22⟩
  have G_law_nought : FnB l.prog w K mg base 1 "_law_nought" spNought := ⟨_, _, _, ok_nought F23 T, PySem.W.mg_of X G a23, k23, b23⟩
  have G_law_unit : FnB l.prog w K mg base 1 "_law_unit" spUnit := ⟨_, _, _, ok_unit F24 T, PySem.W.mg_of X G a24, k24, b24⟩
  have G_law_key : FnB l.prog w K mg base 1 "_law_key" (spKey K) := ⟨_, _, _, ok_lkey F26 T, PySem.W.mg_of X G a26, k26, b26⟩
  have G_law_sum : FnB l.prog w K mg base 4 "_law_sum" spLSum := ⟨_, _, _, ok_lsum F27 T G_law_plus G_law_nought G_law_key, PySem.W.mg_of X G a27, k27, b27⟩
  have G_law_exponents : FnB l.prog w K mg base 2 "_law_exponents" spExp := ⟨_, _, _, ok_exp F30 T G_law_take, PySem.W.mg_of X G a30, k30, b30⟩
  have G_law_parts : FnB l.prog w K mg base 5 "_law_parts" spParts := ⟨_, _, _, ok_parts F31 T G_law_take G_law_exponents G_law_number, PySem.W.mg_of X G a31, k31, b31⟩
  have G_law_sum_like : FnB l.prog w K mg base 5 "_law_sum_like" (spSLike2 K) := ⟨_, _, _, ok_slike2 F29 T G_law_whole G_law_number_like G_law_sum, PySem.W.mg_of X G a29, k29, b29⟩
  have G_law_spoilt : FnB l.prog w K mg base 2 "_law_spoilt" (spSpoilt K) := ⟨_, _, _, ok_spoilt F33 T G_law_take G_law_nought, PySem.W.mg_of X G a33, k33, b33⟩
  have Gis_whole_number : FnB l.prog w K mg base 1 "is_whole_number" (spWhole K) := ⟨_, _, _, ok_iswhole F0 T, PySem.W.mg_of X G a0, k0, b0⟩
  have Gis_pair : FnB l.prog w K mg base 1 "is_pair" (spPair K) := ⟨_, _, _, ok_pair F1 T, PySem.W.mg_of X G a1, k1, b1⟩
  have Gis_product : FnB l.prog w K mg base 2 "is_product" (spIsProd K) := ⟨_, _, _, ok_isproduct F5 T Gis_whole_number, PySem.W.mg_of X G a5, k5, b5⟩
  have MtOf1 : MtBX l.prog w K mg base 2 C_Fractions "of" [.int 1] (spFOfX C_NoNumber) := ⟨⟨_, _, _, _, ok_fofx F_Fractions_of Ggreatest_divisor A_NoNumber x_NoNumber, m_Fractions_of, bd_Fractions_of, .cons ⟨_, rfl⟩ .nil⟩, cl_Fractions⟩
  have MtRf1 : MtBX l.prog w K mg base 2 C_Rests "of" [.int 1] (spROfX C_Rests C_NoNumber) := ⟨⟨_, _, _, _, ok_rofx F_Rests_of cl_Rests na_Rests_modulus Ginverse A_NoNumber x_NoNumber, m_Rests_of, bd_Rests_of, .cons ⟨_, rfl⟩ .nil⟩, cl_Rests⟩
  have MtF : MtB l.prog w K mg base 2 C_Fractions "is_number" (spFIs K) := ⟨⟨_, _, _, ok_fis F_Fractions_is_number Gis_pair Gis_whole_number Ggreatest_divisor, m_Fractions_is_number, b_Fractions_is_number⟩, cl_Fractions⟩
  have MtR : MtB l.prog w K mg base 2 C_Rests "is_number" (spRIs K C_Rests) := ⟨⟨_, _, _, ok_ris F_Rests_is_number cl_Rests na_Rests_modulus Gis_whole_number, m_Rests_is_number, b_Rests_is_number⟩, cl_Rests⟩
  have MtRn : MtB l.prog w K mg base 1 C_Ring "numbers" (spRNum C_Ring) := ⟨⟨_, _, _, ok_rnum F_Ring_numbers cl_Ring na_Ring_kind, m_Ring_numbers, b_Ring_numbers⟩, cl_Ring⟩
  have MtRl : MtB l.prog w K mg base 1 C_Ring "letters" (spRLet C_Ring) := ⟨⟨_, _, _, ok_rlet F_Ring_letters cl_Ring na_Ring_width, m_Ring_letters, b_Ring_letters⟩, cl_Ring⟩
  have MRing : MkBX l.prog w K mg base 2 C_Ring "Ring" (spGInitX C_Ring C_NoRing) := ⟨⟨_, _, _, ok_ginit F_Ring___init__ cl_Ring na_Ring_kind na_Ring_width g_MOST_LETTERS A_NoRing x_NoRing, ⟨mk_Ring, me_Ring___init__, fn_Ring___init__, kc_Ring⟩, b_Ring___init__⟩, A_Ring⟩
  have X_law_ring : FnBX l.prog w K mg base 5 "_law_ring" (spRingX C_Fractions C_Rests C_Ring C_NoRing) := ⟨⟨_, _, _, ok_ring F32 G_law_numbers MRing, PySem.W.mg_of X G a32, k32, b32⟩⟩
  have Gis_part : FnB l.prog w K mg base 3 "is_part" (spPart K C_Fractions C_Rests C_Ring) := ⟨_, _, _, ok_part F10 Gis_pair Gis_product MtRn MtRl MtF MtR MtOf1 MtRf1, PySem.W.mg_of X G a10, k10, b10⟩
  have Gis_sum : FnB l.prog w K mg base 4 "is_sum" (spIsSum K C_Fractions C_Rests C_Ring) := ⟨_, _, _, ok_issum F9 T Gis_part Gis_above, PySem.W.mg_of X G a9, k9, b9⟩
  exact ok_law F34 T G_law_cell G_law_bag G_law_prime X_law_ring G_law_parts G_law_sum G_law_unit G_law_truth G_law_spoilt G_law_sum_like Gis_sum
theorem walk {l : PySem.W.OpenLaw} {q : Program} {loose : List Str} {XP : (Str → Option Value) → Heap → Prop} {YP : World → Heap → Prop} {d : DefRec} {K : Params → PySem.W.Frag} (hn : l.most = some 63) (hdf : d.params.defaults = [])
    (hY : ∀ (w : World) (h : Heap), YP w h → (K w.params).In h)
    (F : ∀ (w : World) (mg : Str → Option Value) (fa : Addr) (h : Heap), (K w.params).In h → h.Ns mainGlobals mg → mg d.name = some (.ref fa) →
      ∃ fd : FuncData, (∀ (s : Shared) (u : Value), BindsTo s fd ⟨[u], []⟩ [("_law_script", u)]) ∧ ∀ base : Heap, (K w.params).In base → base.Ns mainGlobals mg → FnOk l.prog w (K w.params) mg base CX0 7 fa fd ["_law_script"] (spLaw (K w.params))) :
    PySem.W.WalkO q loose XP YP l.row.toRowW d [] (fun f vs => PySem.call f vs) :=
  L2.walk_of (n := 63) (k := 7) (x := "_law_script") (CX := fun _ => CX0) (sp := fun w => spLaw (K w.params)) hn (by decide) hdf ⟨rfl, by decide, by decide⟩ hY F (fun _ _ a ns hl _ hS => ⟨a, ns, rfl, hS, hl, fun _ => rfl⟩) fun _ _ _ _ _ z => z
end K
def PySem.W.Fast.tw2418098679712574765 : Nat := 0
def PySem.W.Fast.tw9661841106591767867 : Nat := 0
def PySem.W.Fast.tw8703522912605772023 : Nat := 0
def PySem.W.Fast.tw14876349021655751320 : Nat := 0
def PySem.W.Fast.tw10420418689531711231 : Nat := 0
def PySem.W.Fast.tw16243522116800870484 : Nat := 0
def PySem.W.Fast.tw10959302064233168346 : Nat := 0
open PySem PySem.W PyProof.Rows
set_option maxRecDepth 100000 in
set_option maxHeartbeats 0 in
theorem PySem.Challenge.cw_relationladder_k11_sums_known_holds : PySem.Challenge.rw_relationladder_k11_sums_known.Holds := by
  w_on; o_law; k_head; (case hw => w_witness2)
  k_fill
  refine K.walk (l := PySem.Challenge.rw_relationladder_k11_sums_known) rfl rfl (fun w h Y => PySem.W.kIn_of Y) ?F
  case F =>
    intro w mg fa h KX G hmg
    refine' K.all_mk KX G hmg ?a0 ?l0 ?c0 ?k0 ?a1 ?l1 ?c1 ?k1 ?a2 ?l2 ?c2 ?k2 ?a3 ?l3 ?c3 ?k3 ?a4 ?l4 ?c4 ?k4 ?a5 ?l5 ?c5 ?k5 ?a6 ?l6 ?c6 ?k6 ?a7 ?l7 ?c7 ?k7 ?a8 ?l8 ?c8 ?k8 ?a9 ?l9 ?c9 ?k9 ?a10 ?l10 ?c10 ?k10 ?a11 ?l11 ?c11 ?k11 ?a12 ?l12 ?c12 ?k12 ?a13 ?l13 ?c13 ?k13 ?a14 ?l14 ?c14 ?k14 ?a15 ?l15 ?c15 ?k15 ?a16 ?l16 ?c16 ?k16 ?a17 ?l17 ?c17 ?k17 ?a18 ?l18 ?c18 ?k18 ?a19 ?l19 ?c19 ?k19 ?a20 ?l20 ?c20 ?k20 ?a21 ?l21 ?c21 ?k21 ?a22 ?l22 ?c22 ?k22 ?a23 ?l23 ?c23 ?k23 ?a24 ?l24 ?c24 ?k24 ?a25 ?l25 ?c25 ?k25 ?a26 ?l26 ?c26 ?k26 ?a27 ?l27 ?c27 ?k27 ?a28 ?l28 ?c28 ?k28 ?a29 ?l29 ?c29 ?k29 ?a30 ?l30 ?c30 ?k30 ?a31 ?l31 ?c31 ?k31 ?a32 ?l32 ?c32 ?k32 ?a33 ?l33 ?c33 ?k33 ?a34 ?l34 ?c34 ?k34 ?aC_Fractions ?pg_Fractions ?hd_Fractions ?po_Fractions ?sa_Fractions ?mk_Fractions ?kc_Fractions ?in_Fractions ?me_Fractions_is_number ?fn_Fractions_is_number ?l_Fractions_is_number ?c_Fractions_is_number ?k_Fractions_is_number ?me_Fractions_of ?fn_Fractions_of ?l_Fractions_of ?c_Fractions_of ?k_Fractions_of ?ld_Fractions_of ?aC_Rests ?pg_Rests ?hd_Rests ?po_Rests ?sa_Rests ?mk_Rests ?kc_Rests ?na_Rests_modulus ?me_Rests___init__ ?fn_Rests___init__ ?l_Rests___init__ ?c_Rests___init__ ?k_Rests___init__ ?me_Rests_is_number ?fn_Rests_is_number ?l_Rests_is_number ?c_Rests_is_number ?k_Rests_is_number ?me_Rests_of ?fn_Rests_of ?l_Rests_of ?c_Rests_of ?k_Rests_of ?ld_Rests_of ?aC_Ring ?pg_Ring ?hd_Ring ?po_Ring ?sa_Ring ?mk_Ring ?kc_Ring ?na_Ring_kind ?na_Ring_width ?me_Ring___init__ ?fn_Ring___init__ ?l_Ring___init__ ?c_Ring___init__ ?k_Ring___init__ ?me_Ring_numbers ?fn_Ring_numbers ?l_Ring_numbers ?c_Ring_numbers ?k_Ring_numbers ?me_Ring_letters ?fn_Ring_letters ?l_Ring_letters ?c_Ring_letters ?k_Ring_letters ?aC_NoNumber ?ek_NoNumber ?ga_NoNumber ?gt_NoNumber ?ca_NoNumber ?mo_NoNumber ?mb_NoNumber ?dg_NoNumber ?dt_NoNumber ?aC_NoRing ?ek_NoRing ?ga_NoRing ?gt_NoRing ?ca_NoRing ?mo_NoRing ?mb_NoRing ?dg_NoRing ?dt_NoRing ?g_LEAST_PRIME ?g_GREATEST_PRIME ?g_MOST_LETTERS ?z0 ?z1 ?z2 ?z3 ?z4 ?z5 ?z6 ?z7 ?z8 ?z9 ?z10 ?z11 ?z12 ?z13 ?z14 ?z15 ?z16
    (case a0 => k_is)
    (case l0 => k_is)
    (case c0 => k_is)
    (case k0 => k_is)
    (case a1 => k_is)
    (case l1 => k_is)
    (case c1 => k_is)
    (case k1 => k_is)
    (case a2 => k_is)
    (case l2 => k_is)
    (case c2 => k_is)
    (case k2 => k_is)
    (case a3 => k_is)
    (case l3 => k_is)
    (case c3 => k_is)
    (case k3 => k_is)
    (case a4 => k_is)
    (case l4 => k_is)
    (case c4 => k_is)
    (case k4 => k_is)
    (case a5 => k_is)
    (case l5 => k_is)
    (case c5 => k_is)
    (case k5 => k_is)
    (case a6 => k_is)
    (case l6 => k_is)
    (case c6 => k_is)
    (case k6 => k_is)
    (case a7 => k_is)
    (case l7 => k_is)
    (case c7 => k_is)
    (case k7 => k_is)
    (case a8 => k_is)
    (case l8 => k_is)
    (case c8 => k_is)
    (case k8 => k_is)
    (case a9 => k_is)
    (case l9 => k_is)
    (case c9 => k_is)
    (case k9 => k_is)
    (case a10 => k_is)
    (case l10 => k_is)
    (case c10 => k_is)
    (case k10 => k_is)
    (case a11 => k_is)
    (case l11 => k_is)
    (case c11 => k_is)
    (case k11 => k_is)
    (case a12 => k_is)
    (case l12 => k_is)
    (case c12 => k_is)
    (case k12 => k_is)
    (case a13 => k_is)
    (case l13 => k_is)
    (case c13 => k_is)
    (case k13 => k_is)
    (case a14 => k_is)
    (case l14 => k_is)
    (case c14 => k_is)
    (case k14 => k_is)
    (case a15 => k_is)
    (case l15 => k_is)
    (case c15 => k_is)
    (case k15 => k_is)
    (case a16 => k_is)
    (case l16 => k_is)
    (case c16 => k_is)
    (case k16 => k_is)
    (case a17 => k_is)
    (case l17 => k_is)
    (case c17 => k_is)
    (case k17 => k_is)
    (case a18 => k_is)
    (case l18 => k_is)
    (case c18 => k_is)
    (case k18 => k_is)
    (case a19 => k_is)
    (case l19 => k_is)
    (case c19 => k_is)
    (case k19 => k_is)
    (case a20 => k_is)
    (case l20 => k_is)
    (case c20 => k_is)
    (case k20 => k_is)
    (case a21 => k_is)
    (case l21 => k_is)
    (case c21 => k_is)
    (case k21 => k_is)
    (case a22 => k_is)
    (case l22 => k_is)
    (case c22 => k_is)
    (case k22 => k_is)
    (case a23 => k_is)
    (case l23 => k_is)
    (case c23 => k_is)
    (case k23 => k_is)
    (case a24 => k_is)
    (case l24 => k_is)
    (case c24 => k_is)
    (case k24 => k_is)
    (case a25 => k_is)
    (case l25 => k_is)
    (case c25 => k_is)
    (case k25 => k_is)
    (case a26 => k_is)
    (case l26 => k_is)
    (case c26 => k_is)
    (case k26 => k_is)
    (case a27 => k_is)
    (case l27 => k_is)
    (case c27 => k_is)
    (case k27 => k_is)
    (case a28 => k_is)
    (case l28 => k_is)
    (case c28 => k_is)
    (case k28 => k_is)
    (case a29 => k_is)
    (case l29 => k_is)
    (case c29 => k_is)
    (case k29 => k_is)
    (case a30 => k_is)
    (case l30 => k_is)
    (case c30 => k_is)
    (case k30 => k_is)
    (case a31 => k_is)
    (case l31 => k_is)
    (case c31 => k_is)
    (case k31 => k_is)
    (case a32 => k_is)
    (case l32 => k_is)
    (case c32 => k_is)
    (case k32 => k_is)
    (case a33 => k_is)
    (case l33 => k_is)
    (case c33 => k_is)
    (case k33 => k_is)
    (case a34 => k_is)
    (case l34 => k_is)
    (case c34 => k_is)
    (case k34 => k_is)
    (case aC_Fractions => k_is)
    (case pg_Fractions => k_is)
    (case hd_Fractions => k_is)
    (case po_Fractions => k_is)
    (case sa_Fractions => k_is)
    (case mk_Fractions => k_is)
    (case kc_Fractions => k_is)
    (case in_Fractions => k_is)
    (case me_Fractions_is_number => k_is)
    (case fn_Fractions_is_number => k_is)
    (case l_Fractions_is_number => k_is)
    (case c_Fractions_is_number => k_is)
    (case k_Fractions_is_number => k_is)
    (case me_Fractions_of => k_is)
    (case fn_Fractions_of => k_is)
    (case l_Fractions_of => k_is)
    (case c_Fractions_of => k_is)
    (case k_Fractions_of => k_is)
    (case ld_Fractions_of => k_is)
    (case aC_Rests => k_is)
    (case pg_Rests => k_is)
    (case hd_Rests => k_is)
    (case po_Rests => k_is)
    (case sa_Rests => k_is)
    (case mk_Rests => k_is)
    (case kc_Rests => k_is)
    (case na_Rests_modulus => k_is)
    (case me_Rests___init__ => k_is)
    (case fn_Rests___init__ => k_is)
    (case l_Rests___init__ => k_is)
    (case c_Rests___init__ => k_is)
    (case k_Rests___init__ => k_is)
    (case me_Rests_is_number => k_is)
    (case fn_Rests_is_number => k_is)
    (case l_Rests_is_number => k_is)
    (case c_Rests_is_number => k_is)
    (case k_Rests_is_number => k_is)
    (case me_Rests_of => k_is)
    (case fn_Rests_of => k_is)
    (case l_Rests_of => k_is)
    (case c_Rests_of => k_is)
    (case k_Rests_of => k_is)
    (case ld_Rests_of => k_is)
    (case aC_Ring => k_is)
    (case pg_Ring => k_is)
    (case hd_Ring => k_is)
    (case po_Ring => k_is)
    (case sa_Ring => k_is)
    (case mk_Ring => k_is)
    (case kc_Ring => k_is)
    (case na_Ring_kind => k_is)
    (case na_Ring_width => k_is)
    (case me_Ring___init__ => k_is)
    (case fn_Ring___init__ => k_is)
    (case l_Ring___init__ => k_is)
    (case c_Ring___init__ => k_is)
    (case k_Ring___init__ => k_is)
    (case me_Ring_numbers => k_is)
    (case fn_Ring_numbers => k_is)
    (case l_Ring_numbers => k_is)
    (case c_Ring_numbers => k_is)
    (case k_Ring_numbers => k_is)
    (case me_Ring_letters => k_is)
    (case fn_Ring_letters => k_is)
    (case l_Ring_letters => k_is)
    (case c_Ring_letters => k_is)
    (case k_Ring_letters => k_is)
    (case aC_NoNumber => k_is)
    (case ek_NoNumber => first | k_is | k_exc | kit_is | kts_exm)
    (case ga_NoNumber => k_is)
    (case gt_NoNumber => k_is)
    (case ca_NoNumber => k_is)
    (case mo_NoNumber => k_is)
    (case mb_NoNumber => k_is)
    (case dg_NoNumber => k_is)
    (case dt_NoNumber => k_is)
    (case aC_NoRing => k_is)
    (case ek_NoRing => first | k_is | k_exc | kit_is | kts_exm)
    (case ga_NoRing => k_is)
    (case gt_NoRing => k_is)
    (case ca_NoRing => k_is)
    (case mo_NoRing => k_is)
    (case mb_NoRing => k_is)
    (case dg_NoRing => k_is)
    (case dt_NoRing => k_is)
    (case g_LEAST_PRIME => k_is)
    (case g_GREATEST_PRIME => k_is)
    (case g_MOST_LETTERS => k_is)
    (case z0 => k_is)
    (case z1 => k_is)
    (case z2 => k_is)
    (case z3 => k_is)
    (case z4 => k_is)
    (case z5 => k_is)
    (case z6 => k_is)
    (case z7 => k_is)
    (case z8 => k_is)
    (case z9 => k_is)
    (case z10 => k_is)
    (case z11 => k_is)
    (case z12 => k_is)
    (case z13 => k_is)
    (case z14 => k_is)
    (case z15 => k_is)
    (case z16 => k_is)
