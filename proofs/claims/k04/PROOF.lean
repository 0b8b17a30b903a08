import PyProof.Rows.All
import Wide.All
import OpenK.AllK
import Wide.FinOn
import Lean
import PyProof.EqAt
import PyProof.EqKinds
import PyProof.TupleCall
import PySem.Challenge.RW_closehaul_k04_fractions_written_and_read
-- CHANGE: your row's module here, as the last of these rows
set_option Elab.async false
set_option linter.all false
set_option maxRecDepth 100000
/-! THE HAND LAYER, for ints, bools, texts, own classes, LISTS and tuples (index, slices, in, append, pop ..), calls, loops. Paste it whole ahead of your own text; what your proof does not reach may be deleted. -/
namespace L2
open PySem PySem.Spec PyProof.Rows

/-- a key: an int or a str -/
abbrev Key := Sum Int Str
def keyIs : Key → Value → Bool
  | .inl k, v => Value.isInt k v
  | .inr x, v => Value.isStrOf x v
def keyH (w : World) : Key → Int
  | .inl k => hashInt k
  | .inr x => hashStr w x
theorem keyIs_shape : ∀ {k : Key} {v : Value}, keyIs k v = true → (∃ i t, k = Sum.inl i ∧ v = Value.int i t) ∨ (∃ x t, k = Sum.inr x ∧ v = Value.str x t)
  | .inl i, v, h => by
    obtain ⟨t, e⟩ := Value.isInt_shape (k := i) (v := v) h
    exact .inl ⟨i, t, rfl, e⟩
  | .inr x, v, h => by
    obtain ⟨t, e⟩ := Value.isStrOf_shape (x := x) (v := v) h
    exact .inr ⟨x, t, rfl, e⟩
theorem keyIs_int (i : Int) (t : Tok) : keyIs (.inl i) (.int i t) = true := by simp [keyIs, Value.isInt]
theorem keyIs_str (x : Str) (t : Tok) : keyIs (.inr x) (.str x t) = true := by simp [keyIs, Value.isStrOf]
theorem key_ll (a b : Int) : decide ((Sum.inl a : Key) = Sum.inl b) = (a == b) := by
  by_cases e : a = b
  · subst e; simp
  · have h : ¬ (Sum.inl a : Key) = Sum.inl b := fun q => e (Sum.inl.inj q)
    rw [decide_eq_false h]
    exact (beq_eq_false_iff_ne.mpr e).symm
theorem key_rr (a b : Str) : decide ((Sum.inr a : Key) = Sum.inr b) = decide (a = b) := by
  by_cases e : a = b
  · subst e; simp
  · have h : ¬ (Sum.inr a : Key) = Sum.inr b := fun q => e (Sum.inr.inj q)
    rw [decide_eq_false h, decide_eq_false e]
theorem key_lr (a : Int) (b : Str) : decide ((Sum.inl a : Key) = Sum.inr b) = false := decide_eq_false (fun q => nomatch q)
theorem key_rl (a : Str) (b : Int) : decide ((Sum.inr a : Key) = Sum.inl b) = false := decide_eq_false (fun q => nomatch q)

def mixKind (prog : Program) (w : World) : PySem.KeyKind prog w Key where
  is := keyIs
  hash := keyH w
  inj := fun v a b ha hb => by
    rcases keyIs_shape ha with ⟨i, t, rfl, rfl⟩ | ⟨x, t, rfl, rfl⟩
    · rcases keyIs_shape hb with ⟨j, u, rfl, e⟩ | ⟨y, u, rfl, e⟩
      · injection e with e1 _; rw [e1]
      · exact nomatch e
    · rcases keyIs_shape hb with ⟨j, u, rfl, e⟩ | ⟨y, u, rfl, e⟩
      · exact nomatch e
      · injection e with e1 _; rw [e1]
  byValue := fun k v h => by
    rcases keyIs_shape h with ⟨i, t, rfl, rfl⟩ | ⟨x, t, rfl, rfl⟩ <;> rfl
  pyHash := fun hv h => by
    rcases keyIs_shape hv with ⟨i, t, rfl, rfl⟩ | ⟨x, t, rfl, rfl⟩
    · exact wpAny_pyHash_int h
    · exact wpAny_pyHash_str h
  eqBool := fun hu hv h => by
    rcases keyIs_shape hu with ⟨i, t, rfl, rfl⟩ | ⟨x, t, rfl, rfl⟩
    · rcases keyIs_shape hv with ⟨j, u, rfl, rfl⟩ | ⟨y, u, rfl, rfl⟩
      · rw [key_ll] at h; exact wpAny_eqBool_int h
      · rw [key_lr] at h; exact SeqAt.EqAt.int_str i t y u _ _ _ _ h
    · rcases keyIs_shape hv with ⟨j, u, rfl, rfl⟩ | ⟨y, u, rfl, rfl⟩
      · rw [key_rl] at h; exact SeqAt.EqAt.str_int x t j u _ _ _ _ h
      · rw [key_rr] at h; exact wpAny_eqBool_str h
  «strs» := fun k x t v h => by
    rcases keyIs_shape h with ⟨i, u, rfl, e⟩ | ⟨y, u, rfl, e⟩
    · exact nomatch e
    · injection e with e1 _
      subst e1
      cases v <;> rfl

theorem mixKind_is (prog : Program) (w : World) (k : Key) (v : Value) : (mixKind prog w).is k v = keyIs k v := rfl
theorem mixKind_int (prog : Program) (w : World) (i : Int) (t : Tok) : (mixKind prog w).is (.inl i) (.int i t) = true := keyIs_int i t
theorem mixKind_str (prog : Program) (w : World) (x : Str) (t : Tok) : (mixKind prog w).is (.inr x) (.str x t) = true := keyIs_str x t
end L2

namespace L2
open PySem PySem.Spec PyProof.Rows

/-- a value, without the heap -/
inductive V where
  | non | bl (b : Bool) | int (i : Int) | str (x : Str) | byt (b : Array UInt8) | flt (b : UInt64) | ref (a : Addr) | ty (n : String)
  deriving DecidableEq

def RelV : V → Value → Prop
  | .non, u => u = Value.none
  | .bl b, u => u = Value.bool b
  | .int i, u => ∃ t, u = Value.int i t
  | .str x, u => ∃ t, u = Value.str x t
  | .byt b, u => ∃ t, u = Value.bytes b t
  | .flt b, u => ∃ t, u = Value.float b t
  | .ref a, u => u = Value.ref a
  | .ty n, u => u = Value.type n

abbrev Vals : List V → List Value → Prop := Paired RelV
theorem Vals.length {xs : List V} {us : List Value} (r : Vals xs us) : xs.length = us.length := Paired.length r
theorem Vals.get : ∀ {xs : List V} {us : List Value} {i : Nat} {x : V}, Vals xs us → xs[i]? = some x → ∃ u, us[i]? = some u ∧ RelV x u
  | _, _, _, _, .nil, e => by simp at e
  | _, _, 0, _, .cons r _, e => by simp at e; subst e; exact ⟨_, rfl, r⟩
  | _, _, i + 1, x, .cons _ t, e => by
    obtain ⟨u, h1, h2⟩ := Vals.get (i := i) (x := x) t (by simpa using e)
    exact ⟨u, by simpa using h1, h2⟩
theorem Vals.set {x : V} {u : Value} (r : RelV x u) : ∀ {xs : List V} {us : List Value} (i : Nat), Vals xs us → Vals (xs.set i x) (us.set i u)
  | _, _, _, .nil => .nil
  | _, _, 0, .cons _ t => .cons r t
  | _, _, i + 1, .cons q t => .cons q (Vals.set r i t)
theorem Vals.append : ∀ {xs ys : List V} {us ws : List Value}, Vals xs us → Vals ys ws → Vals (xs ++ ys) (us ++ ws)
  | _, _, _, _, .nil, s => s
  | _, _, _, _, .cons r t, s => .cons r (Vals.append t s)
theorem Vals.take : ∀ {xs : List V} {us : List Value} (n : Nat), Vals xs us → Vals (xs.take n) (us.take n)
  | _, _, 0, _ => .nil
  | _, _, _ + 1, .nil => .nil
  | _, _, n + 1, .cons r t => .cons r (Vals.take n t)
theorem Vals.drop : ∀ {xs : List V} {us : List Value} (n : Nat), Vals xs us → Vals (xs.drop n) (us.drop n)
  | _, _, 0, r => r
  | _, _, _ + 1, .nil => .nil
  | _, _, n + 1, .cons _ t => Vals.drop n t
theorem Vals.none_of : ∀ {xs : List V} {us : List Value} {i : Nat}, Vals xs us → xs[i]? = none → us[i]? = none := fun {xs us i} r e => by
  have h1 := r.length
  have h2 : xs.length ≤ i := List.getElem?_eq_none_iff.mp e
  exact List.getElem?_eq_none_iff.mpr (by omega)

def RelO : Option V → Option Value → Prop
  | some v, some u => RelV v u
  | none, none => True
  | _, _ => False
def KV {κ : Type} : List (κ × V) → List (κ × Value) → Prop := Paired fun (p : κ × V) (q : κ × Value) => p.1 = q.1 ∧ RelV p.2 q.2

/-- a key of a dict (00_mix): an int or a text -/
def kV : Key → V
  | .inl i => .int i
  | .inr x => .str x

/-- what stands at a tracked address -/
inductive HO where
  /-- a list -/
  | lst (xs : List V)
  /-- a tuple (never changes) -/
  | tup (xs : List V)
  /-- a dict whose keys are ints and texts; one whose keys are tuples of ints and texts (the empty one is both) -/
  | dK (kvs : List (Key × V)) | dT (kvs : List (List Key × V))
  /-- a set of ints: its members, its size -/
  | set (S : Int → Bool) (n : Nat)
  /-- an instance of the class at C, its dict at dx, its attributes -/
  | ins (C dx : Addr) (fs : List (Str × V))
  /-- the dict of the instance at x -/
  | own (x : Addr)
  /-- the dict of an exception -/
  | xd (fs : List (Str × V))
  /-- a bound method, f of x -/
  | met (f x : Addr)
  /-- a range object lo, lo + 1, .. below hi -/
  | rng (lo hi : Int)
  /-- a thing that is known to the object (the script; a dict while a loop walks it): read, never written while it is so -/
  | frz (o : Obj) (u : HO)
  /-- a code object's table -/
  | tbl (ps : Array Value)
  /-- any other thing, by what is true of its one object (a def of one's own: SetO a S n := HO.ext fun h => ..) -/
  | ext (φ : Heap → Prop)

abbrev Hp := Addr → Option HO
def upd (H : Hp) (a : Addr) (o : HO) : Hp := fun b => if b = a then some o else H b
theorem upd_same {H : Hp} {a : Addr} {o : HO} : upd H a o a = some o := by unfold upd; rw [if_pos rfl]
theorem upd_ne {H : Hp} {a b : Addr} {o : HO} (h : b ≠ a) : upd H a o b = H b := by unfold upd; rw [if_neg h]
theorem upd_upd {H : Hp} {a : Addr} {o u : HO} : upd (upd H a o) a u = upd H a u := by
  funext b; unfold upd; split <;> rfl
/-- two objects of different content stand apart -/
theorem ne_of {H : Hp} {a b : Addr} {o u : HO} (h : H a = some o) (h' : H b = some u) (d : o ≠ u) : a ≠ b := by
  intro e; subst e; rw [h] at h'; exact d (Option.some.inj h')
theorem ne_of_none {H : Hp} {a b : Addr} {o : HO} (h : H a = some o) (h' : H b = none) : a ≠ b := by
  intro e; subst e; rw [h] at h'; cases h'

section
variable (P : Program) (w : World)
def ObjOk (H : Hp) (h : Heap) (a : Addr) : HO → Prop
  | .lst xs => xs.length ≤ sizeLine ∧ ∃ (its : List Value) (n : Nat), Vals xs its ∧ h.get? a = some { cls := .type "list", data := .seq its.toArray n }
  | .tup xs => xs.length ≤ sizeLine ∧ ∃ its : List Value, Vals xs its ∧ IsTup h a its.toArray
  | .dK kvs => kvs.length ≤ sizeLine ∧ (a == sysModules) = false ∧ ∃ vs, KV kvs vs ∧ h.DictOf (mixKind P w) a vs
  | .dT kvs => kvs.length ≤ sizeLine ∧ (a == sysModules) = false ∧ ∃ xs : List (List Key × Addr × Value),
      Paired (fun (p : List Key × V) (q : List Key × Addr × Value) => p.1 = q.1 ∧ H q.2.1 = some (.tup (p.1.map kV)) ∧ RelV p.2 q.2.2) kvs xs ∧
      ∃ o es ep, h.get? a = some o ∧ o.ExactDict ∧ o.data = .dict es ep ∧ es.toList = xs.map (entryOfKey (tupleKind (mixKind P w))) ∧ (xs.map (·.1)).Nodup
  | .set S n => h.SetOf (intKind P w) a S n
  | .ins C dx fs => H dx = some (.own a) ∧ fs.length ≤ 1000 ∧ dx ≠ a ∧ h.get? a = some (PySem.W.instObj C dx) ∧
      ∃ mA, h.Ns1 dx mA ∧ (∀ f, RelO (fs.lookup f) (mA f)) ∧ PySem.Within mA (fs.map (·.1))
  | .own _ => ∃ o, h.get? a = some o
  | .xd fs => ∃ mA, h.Ns1 a mA ∧ ∀ f, RelO (fs.lookup f) (mA f)
  | .rng lo hi => ∃ t u v, h.get? a = some { cls := .type "range", data := .fields #[.int lo t, .int hi u, .int 1 v] }
  | .frz o u => h.get? a = some o ∧ ObjOk H h a u
  | .tbl ps => h.get? a = some { cls := .none, data := .fields ps }
  | .met f x => h.get? a = some (PySem.W.methodObj (.ref f) (.ref x))
  | .ext φ => φ h ∧ (∃ o, h.get? a = some o) ∧ ∀ h1 h2 : Heap, φ h1 → (∀ o, h1.get? a = some o → h2.get? a = some o) → φ h2
/-- the abstract heap is held -/
def HOk (H : Hp) (h : Heap) : Prop := ∀ a o, H a = some o → ObjOk P w H h a o
end

section
variable {P : Program} {w : World} {H H' : Hp} {h h' : Heap} {a : Addr} {o : HO}
theorem ObjOk.lt (x : ObjOk P w H h a o) : a < h.objs.size := by
  cases o with
  | lst xs => obtain ⟨_, _, _, _, e⟩ := x; exact Heap.lt_size e
  | tup xs => obtain ⟨_, _, _, p⟩ := x; exact p.lt
  | dK kvs => obtain ⟨_, _, _, _, o, _, _, e, _⟩ := x; exact Heap.lt_size e
  | dT kvs => obtain ⟨_, _, _, _, o, _, _, e, _⟩ := x; exact Heap.lt_size e
  | set S n => obtain ⟨o, _, _, _, e, _⟩ := x; exact Heap.lt_size e
  | ins C dx fs => obtain ⟨_, _, _, e, _⟩ := x; exact Heap.lt_size e
  | own y => obtain ⟨_, e⟩ := x; exact Heap.lt_size e
  | xd fs => obtain ⟨_, ⟨_, _, _, e, _⟩, _⟩ := x; exact Heap.lt_size e
  | rng lo hi => obtain ⟨_, _, _, e⟩ := x; exact Heap.lt_size e
  | frz ob u => obtain ⟨e, _⟩ := x; exact Heap.lt_size e
  | tbl ps => exact Heap.lt_size (show h.get? a = some _ from x)
  | met f y => exact Heap.lt_size (show h.get? a = some _ from x)
  | ext φ => obtain ⟨_, ⟨_, e⟩, _⟩ := x; exact Heap.lt_size e
theorem Paired.mapP {α β : Type} {F G : α → β → Prop} : ∀ {l₁ : List α} {l₂ : List β}, Paired F l₁ l₂ → (∀ a b, F a b → G a b) → Paired G l₁ l₂
  | _, _, .nil, _ => .nil
  | _, _, .cons r t, f => .cons (f _ _ r) (Paired.mapP t f)
theorem Paired.imp' {α β : Type} {F G : α → β → Prop} (f : ∀ a b, F a b → G a b) {l₁ : List α} {l₂ : List β} (r : Paired F l₁ l₂) : Paired G l₁ l₂ := Paired.mapP r f
/-- what an object's description leans on: its own object, its own dict, the tuples -/
theorem ObjOk.stay (x : ObjOk P w H h a o) (k : ∀ b u, (b = a ∨ H b = some (.own a)) → h.get? b = some u → h'.get? b = some u)
    (ho : ∀ b, H b = some (.own a) → H' b = some (.own a)) (ht : ∀ b xs, H b = some (.tup xs) → H' b = some (.tup xs)) : ObjOk P w H' h' a o := by
  induction o with
  | lst xs => obtain ⟨z, its, n, r, e⟩ := x; exact ⟨z, its, n, r, k _ _ (.inl rfl) e⟩
  | tup xs => obtain ⟨z, its, r, ob, e, c⟩ := x; exact ⟨z, its, r, ob, k _ _ (.inl rfl) e, c⟩
  | dK kvs => obtain ⟨z, y, vs, r, ob, es, ep, e, c⟩ := x; exact ⟨z, y, vs, r, ob, es, ep, k _ _ (.inl rfl) e, c⟩
  | dT kvs =>
    obtain ⟨z, y, xs, r, ob, es, ep, e, c⟩ := x
    exact ⟨z, y, xs, Paired.mapP r fun p q z => ⟨z.1, ht _ _ z.2.1, z.2.2⟩, ob, es, ep, k _ _ (.inl rfl) e, c⟩
  | set S n => obtain ⟨ob, es, ep, t, e, c⟩ := x; exact ⟨ob, es, ep, t, k _ _ (.inl rfl) e, c⟩
  | ins C dx fs =>
    obtain ⟨d, z, ne, e, mA, ⟨od, es, ep, e2, c⟩, r⟩ := x
    exact ⟨ho _ d, z, ne, k _ _ (.inl rfl) e, mA, ⟨od, es, ep, k _ _ (.inr d) e2, c⟩, r⟩
  | own y => obtain ⟨ob, e⟩ := x; exact ⟨ob, k _ _ (.inl rfl) e⟩
  | xd fs => obtain ⟨mA, ⟨od, es, ep, e, c⟩, r⟩ := x; exact ⟨mA, ⟨od, es, ep, k _ _ (.inl rfl) e, c⟩, r⟩
  | rng lo hi => obtain ⟨t, u, v, e⟩ := x; exact ⟨t, u, v, k _ _ (.inl rfl) e⟩
  | frz ob u ih => obtain ⟨e, q⟩ := x; exact ⟨k _ _ (.inl rfl) e, ih q⟩
  | tbl ps =>
    have e : h.get? a = some { cls := .none, data := .fields ps } := x
    show h'.get? a = some { cls := .none, data := .fields ps }
    exact k a _ (.inl rfl) e
  | met f y =>
    have e : h.get? a = some (PySem.W.methodObj (.ref f) (.ref y)) := x
    show h'.get? a = some (PySem.W.methodObj (.ref f) (.ref y))
    exact k a _ (.inl rfl) e
  | ext φ => obtain ⟨p, ⟨o, e⟩, st⟩ := x; exact ⟨st _ _ p fun o q => k _ _ (.inl rfl) q, ⟨o, k _ _ (.inl rfl) e⟩, st⟩
theorem HOk.lt (x : HOk P w H h) (e : H a = some o) : a < h.objs.size := (x a o e).lt
theorem HOk.fresh (x : HOk P w H h) (e : h.objs.size ≤ a) : H a = none := by
  cases q : H a with
  | none => rfl
  | some u => exact absurd (Nat.lt_of_lt_of_le (x.lt q) e) (Nat.lt_irrefl _)
/-- every object of the heap is kept -/
theorem HOk.kept (x : HOk P w H h) (k : ∀ b u, h.get? b = some u → h'.get? b = some u) : HOk P w H h' := fun a o e =>
  (x a o e).stay (fun b u _ q => k b u q) (fun _ q => q) fun _ _ q => q
/-- a new object is laid and tracked -/
theorem HOk.laid (x : HOk P w H h) (k : ∀ b u, h.get? b = some u → h'.get? b = some u) (hp : h.objs.size ≤ a) (new : ObjOk P w (upd H a o) h' a o) : HOk P w (upd H a o) h' := fun b u e => by
  have hn := x.fresh hp
  by_cases hb : b = a
  · subst hb; rw [upd_same] at e; cases e; exact new
  · rw [upd_ne hb] at e
    exact (x b u e).stay (fun c v _ q => k c v q) (fun c q => by rw [upd_ne (ne_of_none q hn)]; exact q) fun c xs q => by rw [upd_ne (ne_of_none q hn)]; exact q
end

/-- what may be read as u: it is u, or a known u -/
def Rd (H : Hp) (a : Addr) (u : HO) : Prop := H a = some u ∨ ∃ o, H a = some (.frz o u)
theorem Rd.of {H : Hp} {a : Addr} {u : HO} (h : H a = some u) : Rd H a u := .inl h
theorem Rd.ok {P : Program} {w : World} {H : Hp} {h : Heap} {a : Addr} {u : HO} (r : Rd H a u) (x : HOk P w H h) : ObjOk P w H h a u := by
  rcases r with r | ⟨o, r⟩
  · exact x a u r
  · obtain ⟨_, q⟩ := x a _ r
    exact q
/-- what may be written -/
def Mut : Option HO → Prop
  | some (.lst _) => True
  | some (.dK _) => True
  | some (.dT _) => True
  | some (.set _ _) => True
  | some (.ins _ _ _) => True
  | some (.ext _) => True
  | _ => False
section
variable {P : Program} {w : World} {H : Hp} {h h' : Heap} {x e : Addr} {o' : HO}
/-- the object at e is changed: x itself, or the dict of the instance x -/
theorem HOk.write (ok : HOk P w H h) (mu : Mut (H x)) (he : e = x ∨ H e = some (.own x)) (k : ∀ b u, b ≠ e → h.get? b = some u → h'.get? b = some u) (heo : ∃ u, h'.get? e = some u)
    (new : ObjOk P w (upd H x o') h' x o') : HOk P w (upd H x o') h' := fun b u q => by
  have nown : ∀ c y, H c = some (.own y) → c ≠ x := fun c y r z => by subst z; rw [r] at mu; exact mu
  have ntup : ∀ c xs, H c = some (.tup xs) → c ≠ x := fun c xs r z => by subst z; rw [r] at mu; exact mu
  by_cases hb : b = x
  · subst hb; rw [upd_same] at q; cases q; exact new
  · rw [upd_ne hb] at q
    by_cases hbe : b = e
    · have q' : H b = some (.own x) := by
        rcases he with z | z
        · exact absurd (hbe.trans z) hb
        · rw [hbe]; exact z
      rw [q] at q'; cases q'
      obtain ⟨v, hv⟩ := heo
      exact ⟨v, by rw [hbe]; exact hv⟩
    · refine (ok b u q).stay (fun c v hc r => k c v ?_ r) (fun c r => by rw [upd_ne (nown c b r)]; exact r) fun c xs r => by rw [upd_ne (ntup c xs r)]; exact r
      rcases hc with rfl | hc
      · exact hbe
      · rintro rfl
        rcases he with z | z
        · exact nown c b hc z
        · rw [hc] at z; cases z; exact hb rfl
end

/-! ### kept unless tracked; of the frames at fs (the callers') the slots may change (an exception that passes writes there); of the records at ex (iterators) nothing is said -/
structure Un (fs ex : List Addr) (H H' : Hp) (h h' : Heap) : Prop where
  keep : ∀ b o, h.get? b = some o → H b = none → b ∉ fs → b ∉ ex → h'.get? b = some o
  slot : ∀ b o, h.get? b = some o → H b = none → b ∈ fs → b ∉ ex → ∃ sl, h'.get? b = some { o with slots := sl }
  free : ∀ b o, h.get? b = some o → H b = none → b ∉ ex → H' b = none
  there : ∀ b o, h.get? b = some o → b ∉ ex → ∃ o', h'.get? b = some o'
  tups : ∀ b xs, H b = some (.tup xs) → H' b = some (.tup xs)
  frzs : ∀ b o u, H b = some (.frz o u) → H' b = some (.frz o u)
  tbls : ∀ b ps, H b = some (.tbl ps) → ∃ more, H' b = some (.tbl (ps ++ more))
section
variable {fs fs' ex ex' : List Addr} {H H1 H2 : Hp} {h h1 h2 h' : Heap} {a x e : Addr} {o : HO}
theorem Un.any (u : Un fs ex H H1 h h1) {b : Addr} {ob : Obj} (q : h.get? b = some ob) (n : H b = none) (hx : b ∉ ex) : ∃ sl, h1.get? b = some { ob with slots := sl } := by
  by_cases hb : b ∈ fs
  · exact u.slot b ob q n hb hx
  · exact ⟨ob.slots, u.keep b ob q n hb hx⟩
theorem Un.trans (a : Un fs ex H H1 h h1) (b : Un fs ex H1 H2 h1 h2) : Un fs ex H H2 h h2 where
  keep := fun c ob q n hc hx => b.keep c ob (a.keep c ob q n hc hx) (a.free c ob q n hx) hc hx
  slot := fun c ob q n hc hx => by
    obtain ⟨sl, e1⟩ := a.slot c ob q n hc hx
    obtain ⟨sl', e2⟩ := b.slot c _ e1 (a.free c ob q n hx) hc hx
    exact ⟨sl', e2⟩
  free := fun c ob q n hx => by
    obtain ⟨o', e1⟩ := a.there c ob q hx
    exact b.free c o' e1 (a.free c ob q n hx) hx
  there := fun c ob q hx => by
    obtain ⟨o', e1⟩ := a.there c ob q hx
    exact b.there c o' e1 hx
  tups := fun c xs q => b.tups c xs (a.tups c xs q)
  frzs := fun c ob xs q => b.frzs c ob xs (a.frzs c ob xs q)
  tbls := fun c ps q => by
    obtain ⟨m1, e1⟩ := a.tbls c ps q
    obtain ⟨m2, e2⟩ := b.tbls c _ e1
    exact ⟨m1 ++ m2, by rw [e2, Array.append_assoc]⟩
theorem Un.kept (k : ∀ b u, h.get? b = some u → h'.get? b = some u) : Un fs ex H H h h' :=
  ⟨fun b ob q _ _ _ => k b ob q, fun b ob q _ _ _ => ⟨ob.slots, k b ob q⟩, fun _ _ _ n _ => n, fun b ob q _ => ⟨ob, k b ob q⟩, fun _ _ q => q, fun _ _ _ q => q, fun _ ps q => ⟨#[], by rw [q]; simp⟩⟩
theorem Un.refl : Un fs ex H H h h := Un.kept fun _ _ q => q
theorem Un.laid (k : ∀ b u, h.get? b = some u → h'.get? b = some u) (hp : h.objs.size ≤ a) (hn : H a = none) : Un fs ex H (upd H a o) h h' where
  keep := fun b u q _ _ _ => k b u q
  slot := fun b u q _ _ _ => ⟨u.slots, k b u q⟩
  free := fun b u q n _ => by rw [upd_ne (Nat.ne_of_lt (Nat.lt_of_lt_of_le (Heap.lt_size q) hp))]; exact n
  there := fun b u q _ => ⟨u, k b u q⟩
  tups := fun b xs q => by rw [upd_ne (ne_of_none q hn)]; exact q
  frzs := fun b u xs q => by rw [upd_ne (ne_of_none q hn)]; exact q
  tbls := fun b ps q => ⟨#[], by rw [upd_ne (ne_of_none q hn), q]; simp⟩
theorem Un.write (mu : Mut (H x)) (he : e = x ∨ H e = some (.own x)) (k : ∀ b u, b ≠ e → h.get? b = some u → h'.get? b = some u) (heo : ∃ u, h'.get? e = some u) : Un fs ex H (upd H x o) h h' := by
  have hx : ∀ b, H b = none → b ≠ x := fun b n z => by subst z; rw [n] at mu; exact mu
  have hb : ∀ b, H b = none → b ≠ e := fun b n z => by
    subst z
    rcases he with r | r
    · exact hx b n r
    · rw [n] at r; cases r
  have hm : ∀ b u, H b = some u → ¬ Mut (some u) → b ≠ x := fun b u q nm z => by subst z; rw [q] at mu; exact nm mu
  refine ⟨fun b u q n _ _ => k b u (hb b n) q, fun b u q n _ _ => ⟨u.slots, k b u (hb b n) q⟩, fun b u q n _ => by rw [upd_ne (hx b n)]; exact n, fun b u q _ => ?_,
    fun b xs q => by rw [upd_ne (hm b _ q fun z => z)]; exact q, fun b u xs q => by rw [upd_ne (hm b _ q fun z => z)]; exact q, fun b ps q => ⟨#[], by rw [upd_ne (hm b _ q fun z => z), q]; simp⟩⟩
  by_cases hbe : b = e
  · subst hbe; exact heo
  · exact ⟨u, k b u hbe q⟩
theorem Un.mono (u : Un fs ex H H1 h h1) (hs : ∀ b ∈ fs, b ∈ fs') (hx : ∀ b ∈ ex, b ∈ ex') : Un fs' ex' H H1 h h1 :=
  ⟨fun b ob q n hb he => u.keep b ob q n (fun z => hb (hs b z)) fun z => he (hx b z), fun _ _ q n _ he => u.any q n fun z => he (hx _ z), fun b ob q n he => u.free b ob q n fun z => he (hx b z), fun b ob q he => u.there b ob q fun z => he (hx b z), u.tups, u.frzs, u.tbls⟩
end

/-! ### the heap without what is tracked -/
def trk (h : Heap) (H : Hp) : List Addr := (List.range h.objs.size).filter fun a => (H a).isSome
def hidT (h : Heap) (H : Hp) : Heap := PySem.W.hideAll h (trk h H)
theorem hidT_size (h : Heap) (H : Hp) : (hidT h H).objs.size = h.objs.size := PySem.W.hideAll_size _ _
theorem hidT_get {h : Heap} {H : Hp} {b : Addr} {o : Obj} (e : h.get? b = some o) (n : H b = none) : (hidT h H).get? b = some o :=
  PySem.W.hideAll_get _ e fun hm => by
    have q : (H b).isSome = true := (List.mem_filter.mp hm).2
    rw [n] at q; simp at q
theorem of_hidT {h : Heap} {H : Hp} {b : Addr} {o : Obj} (e : (hidT h H).get? b = some o) : h.get? b = some o ∧ H b = none := by
  have e' : h.get? b = some o := PySem.W.of_hideAll (trk h H) e
  refine ⟨e', ?_⟩
  cases q : H b with
  | none => rfl
  | some x =>
    have hm : b ∈ trk h H := List.mem_filter.mpr ⟨List.mem_range.mpr (Heap.lt_size e'), by simp [q]⟩
    have z : (hidT h H).get? b = none := PySem.W.hideAll_none (trk h H) hm
    rw [z] at e; cases e

/-! ### OpenK's ledger, filled with every new object but one -/
def allNews (g h : Heap) (L : Addr) : List (Addr × Obj) := (List.range h.objs.size).filterMap fun a => if a = L ∨ (g.get? a).isSome = true then none else (h.get? a).map fun o => (a, o)
theorem mem_allNews {g h : Heap} {L a : Addr} {o : Obj} (h1 : a ≠ L) (h2 : g.get? a = none) (h3 : h.get? a = some o) : (a, o) ∈ allNews g h L :=
  List.mem_filterMap.mpr ⟨a, List.mem_range.mpr (Heap.lt_size h3), by simp [h1, h2, h3]⟩
theorem of_mem_allNews {g h : Heap} {L : Addr} {p : Addr × Obj} (hp : p ∈ allNews g h L) : p.1 ≠ L ∧ g.get? p.1 = none ∧ h.get? p.1 = some p.2 := by
  obtain ⟨b, _, e⟩ := List.mem_filterMap.mp hp
  split at e
  · cases e
  · rename_i hn
    cases q : h.get? b with
    | none => rw [q] at e; simp at e
    | some u =>
      rw [q] at e
      simp only [Option.map_some, Option.some.injEq] at e
      subst e
      refine ⟨fun z => hn (.inl z), ?_, q⟩
      show g.get? b = none
      cases r : g.get? b with
      | none => rfl
      | some v => exact (hn (.inr (by simp [r]))).elim
def rest (g h : Heap) (L d : Addr) : List (Addr × Obj) := (allNews g h L).filter fun p => decide (p.1 ≠ d)
theorem rest_ne {g h : Heap} {L d : Addr} : ∀ p ∈ rest g h L d, p.1 ≠ d := fun p hp => of_decide_eq_true (List.mem_filter.mp hp).2
theorem mem_rest {g h : Heap} {L d a : Addr} {o : Obj} (h1 : a ≠ L) (h2 : g.get? a = none) (h3 : h.get? a = some o) (h4 : a ≠ d) : (a, o) ∈ rest g h L d :=
  List.mem_filter.mpr ⟨mem_allNews h1 h2 h3, decide_eq_true h4⟩
theorem news_all {g h : Heap} {L : Addr} : News g L h (allNews g h L) := fun p hp => let ⟨a, b, c⟩ := of_mem_allNews hp; ⟨c, a, b⟩
theorem news_at {g h : Heap} {L d : Addr} {o : Obj} (h1 : d ≠ L) (h2 : g.get? d = none) (h3 : h.get? d = some o) : News g L h ((d, o) :: rest g h L d) := fun p hp => by
  rcases List.mem_cons.mp hp with rfl | hp
  · exact ⟨h3, h1, h2⟩
  · exact news_all p (List.mem_filter.mp hp).1
/-- behind a rule that changed d alone: all else but the frame is kept -/
theorem kept_of_news {g h h' : Heap} {L d : Addr} {m : Str → Option Value} (k : ∀ b o, g.get? b = some o → h.get? b = some o) (F : Fr g L h' m) (N : News g L h' (rest g h L d)) :
    ∀ b o, b ≠ L → b ≠ d → h.get? b = some o → h'.get? b = some o := fun b o h1 h2 e => by
  cases q : g.get? b with
  | some u =>
    have := k b u q
    rw [e] at this; cases this
    exact F.keep b _ q
  | none => exact (N (b, o) (mem_rest h1 q e h2)).1
end L2

namespace L2
open PySem PySem.Spec PyProof.Rows

/-- the module's facts, over the base: the heap at the law's entry without what is tracked there -/
structure Mod (K : PySem.W.Frag) (mg : Str → Option Value) (base : Heap) : Prop where
  kin : K.In base
  glob : base.Ns mainGlobals mg
  blt : ∃ mb, base.Ns builtinsNs mb ∧ ∀ x : Str, x ≠ "__name__" → mb x = bootBuiltins x
  nolimit : base.NoLimit

/-- the context: a def's body (or a comprehension's block) running. base: fixed through the whole law; s₀, H₀: the entry; outer: the frames whose slots others may change (a def's callers); stack: all frames that run;
   ex: iterators that were made ahead of the entry and are walked here (a comprehension's); fn: the names whose cells were made at the entry (a def: all; a comprehension's block: its own); calm: not within an except suite; pn: pins that every state bears; xe: what is wanted of an exception that leaves the code -/
structure Cx where
  prog : Program
  w : World
  K : PySem.W.Frag
  mg : Str → Option Value
  base : Heap
  A : Around
  N : List Str
  s₀ : Shared
  H₀ : Hp
  env : Env
  outer : List Env
  stack : List Env
  ex : List Addr
  fn : Str → Bool
  calm : Bool
  pn : List (Addr × Obj)
  xe : Value → Shared → Prop
/-- the callers' frames -/
def frs (l : List Env) : List Addr := l.filterMap (·.frame)
abbrev Cx.fs (X : Cx) : List Addr := frs X.outer

def Vis (sc : Scope) (x : Str) : Prop := sc.names.lookup x = some .local ∨ sc.names.lookup x = some .cell ∨ sc.names.lookup x = some .free
def Loc (sc : Scope) (x : Str) : Prop := sc.names.lookup x = some .local ∨ sc.names.lookup x = some .cell
def Look (env : Env) (h : Heap) (m : Str → Option Value) (x : Str) (u : Value) : Prop :=
  (env.kindOf x = some .local ∧ m x = some u) ∨ ((env.kindOf x = some .cell ∨ env.kindOf x = some .free) ∧ ∃ c, env.cells.lookup x = some c ∧ h.IsCell c (some u))

structure Cx.Ok (X : Cx) : Prop where
  mod : Mod X.K X.mg X.base
  kind : X.env.scope.kind = .function
  glob : X.env.globals = mainGlobals
  blt : X.env.builtins = builtinsNs
  above : X.s₀.heap.objs.size ≤ X.env.locals
  inj : ∀ x y c, X.env.cells.lookup x = some c → X.env.cells.lookup y = some c → x = y
  has : ∀ x, (X.env.kindOf x = some .cell ∨ X.env.kindOf x = some .free) → ∃ c, X.env.cells.lookup x = some c
  cab : ∀ x c, X.fn x = true → X.env.cells.lookup x = some c → X.s₀.heap.objs.size ≤ c
  hd : X.calm = true → X.A.handled = none
  frames : X.A.frames = some X.stack
  stk : X.stack = X.outer ∨ (X.stack = X.env :: X.outer ∧ X.env.frame = some X.env.locals)
  exf : ∀ b ∈ X.ex, b ≠ X.env.locals ∧ ∀ x c, X.env.cells.lookup x = some c → c ≠ b
  bs : ∀ b o, X.base.get? b = some o → X.s₀.heap.get? b = some o ∧ X.H₀ b = none
  bsz : X.base.objs.size ≤ X.s₀.heap.objs.size
  noex : ∀ b o, X.base.get? b = some o → b ∉ X.ex
  exfs : ∀ b ∈ X.ex, b ∉ X.fs
  funs : X.s₀.heap.FunFrames X.base X.outer
  frf : ∀ b ∈ X.fs, X.H₀ b = none

structure Inv (X : Cx) (pins : List (Addr × Obj)) (σ : List (Option V)) (H : Hp) (s : Shared) : Prop where
  ok : X.Ok
  os : s.os = X.s₀.os
  bare : AllBare s.gens
  base : Un X.fs X.ex X.H₀ H X.s₀.heap s.heap
  loc : ∃ m, s.heap.Ns X.env.locals m ∧ ∀ (i : Nat) (x : Str) (v : V), X.N[i]? = some x → σ[i]? = some (some v) → Vis X.env.scope x → ∃ u, RelV v u ∧ Look X.env s.heap m x u
  cell : ∀ x c, X.env.cells.lookup x = some c → ∃ v, s.heap.IsCell c v
  free : H X.env.locals = none
  freeC : ∀ x c, X.env.cells.lookup x = some c → H c = none
  pin : ∀ p ∈ X.pn ++ pins, s.heap.get? p.1 = some p.2 ∧ H p.1 = none ∧ p.1 ≠ X.env.locals ∧ p.1 ∉ X.fs ∧ ∀ v, p.2.data ≠ .cell v
  hok : HOk X.prog X.w H s.heap
  len : σ.length = X.N.length

section
variable {X : Cx} {pins : List (Addr × Obj)} {σ : List (Option V)} {H H' : Hp} {s : Shared} {h' : Heap}

theorem Cx.Ok.nofr (ok : X.Ok) {b : Addr} {o : Obj} (e : X.base.get? b = some o) : b ∉ X.fs := fun hb => by
  have := (ok.funs.mem hb).1
  rw [e] at this; cases this
theorem Inv.bs (I : Inv X pins σ H s) : ∀ b o, X.base.get? b = some o → s.heap.get? b = some o ∧ H b = none := fun b o e =>
  ⟨I.base.keep b o (I.ok.bs b o e).1 (I.ok.bs b o e).2 (I.ok.nofr e) (I.ok.noex b o e), I.base.free b o (I.ok.bs b o e).1 (I.ok.bs b o e).2 (I.ok.noex b o e)⟩
theorem Inv.bk (I : Inv X pins σ H s) : ∀ b o, X.base.get? b = some o → s.heap.get? b = some o := fun b o e => (I.bs b o e).1
theorem Inv.mod (I : Inv X pins σ H s) : Mod X.K X.mg X.base := I.ok.mod
theorem Inv.kIn (I : Inv X pins σ H s) : X.K.In s.heap := I.ok.mod.kin.keeps I.bk
theorem Inv.nolimit (I : Inv X pins σ H s) : s.heap.NoLimit := I.ok.mod.nolimit.keeps I.bk
/-- the frame over the base: for OpenK's rules (K.In X.base is I.mod.kin) -/
theorem Inv.fr (I : Inv X pins σ H s) : ∃ m, Fr X.base X.env.locals s.heap m :=
  let ⟨m, hn, _⟩ := I.loc
  ⟨m, hn, I.bk, Nat.le_trans I.ok.bsz I.ok.above⟩
theorem Inv.lt (I : Inv X pins σ H s) : X.env.locals < s.heap.objs.size := let ⟨_, hn, _⟩ := I.loc; hn.lt
theorem Inv.sz (I : Inv X pins σ H s) : X.s₀.heap.objs.size ≤ s.heap.objs.size := Nat.le_trans I.ok.above (Nat.le_of_lt I.lt)
theorem Inv.nofs (I : Inv X pins σ H s) {a : Addr} (h : s.heap.objs.size ≤ a) : a ∉ X.fs := fun hb => by
  obtain ⟨_, o, ho, _⟩ := I.ok.funs.mem hb
  exact absurd (Nat.lt_of_lt_of_le (Heap.lt_size ho) (Nat.le_trans I.sz h)) (Nat.lt_irrefl _)
theorem Inv.cne (I : Inv X pins σ H s) : ∀ x c, X.env.cells.lookup x = some c → c ≠ X.env.locals := fun x c e z => by
  obtain ⟨v, o, ho, hd⟩ := I.cell x c e
  obtain ⟨m, ⟨o', es, ep, ho', hd', _⟩, _⟩ := I.loc
  rw [z, ho'] at ho; cases ho; rw [hd'] at hd; cases hd
theorem Inv.funs (I : Inv X pins σ H s) : s.heap.FunFrames X.base X.outer := by
  have all : ∀ (l : List Env), (∀ b ∈ frs l, b ∈ X.fs) → X.s₀.heap.FunFrames X.base l → s.heap.FunFrames X.base l := by
    intro l
    induction l with
    | nil => intro _ _; trivial
    | cons env r ih =>
      intro hs hl
      obtain ⟨hk, ⟨L, o, hf, hn, ho, hd⟩, hr⟩ := hl
      have hL : L ∈ X.fs := hs L (by unfold frs; rw [List.filterMap_cons, hf]; exact List.mem_cons_self)
      obtain ⟨sl, e⟩ := I.base.slot L o ho (I.ok.frf L hL) hL fun z => I.ok.exfs L z hL
      exact ⟨hk, ⟨L, _, hf, hn, e, hd⟩, ih (fun b hb => hs b (by unfold frs; rw [List.filterMap_cons, hf]; exact List.mem_cons_of_mem _ hb)) hr⟩
  exact all X.outer (fun _ hb => hb) I.ok.funs

/-- the frames that run, for a call -/
theorem Inv.stack (I : Inv X pins σ H s) : s.heap.FunFrames X.base X.stack := by
  rcases I.ok.stk with e | ⟨e, hf⟩
  · rw [e]; exact I.funs
  · rw [e]
    obtain ⟨m, hn, _⟩ := I.loc
    refine .cons (by rw [I.ok.kind]; decide) hf hn ?_ I.funs
    exact Heap.get?_none_of_le (Nat.le_trans I.ok.bsz I.ok.above)
theorem Inv.stkSub (I : Inv X pins σ H s) : ∀ b ∈ frs X.stack, b ∈ X.env.locals :: X.fs := fun b hb => by
  rcases I.ok.stk with e | ⟨e, hf⟩
  · rw [e] at hb; exact List.mem_cons_of_mem _ hb
  · rw [e] at hb
    unfold frs at hb
    rw [List.filterMap_cons, hf] at hb
    exact hb
theorem Inv.stkFree (I : Inv X pins σ H s) : ∀ b ∈ frs X.stack, H b = none := fun b hb => by
  rcases List.mem_cons.mp (I.stkSub b hb) with e | hb
  · rw [e]; exact I.free
  · obtain ⟨_, o, ho, _⟩ := I.ok.funs.mem hb
    exact I.base.free b o ho (I.ok.frf b hb) fun z => I.ok.exfs b z hb

/-- THE STEP: the untracked objects but the frame and the records at ch are kept (the callers' frames up to slots), the frame's map is kept, the new abstract heap is held -/
theorem Inv.step {g' : Array GenState} {t' : Nat} {d' : Drawn} {ch : List Addr} (I : Inv X pins σ H s)
    (hch : ∀ b ∈ ch, (b ∈ X.ex ∨ X.s₀.heap.objs.size ≤ b) ∧ b ≠ X.env.locals ∧ (∀ x c, X.env.cells.lookup x = some c → c ≠ b) ∧ ∀ p ∈ X.pn ++ pins, p.1 ≠ b)
    (keep : ∀ b o, b ≠ X.env.locals → b ∉ X.fs → b ∉ ch → s.heap.get? b = some o → H b = none → h'.get? b = some o)
    (slot : ∀ b o, b ≠ X.env.locals → b ∈ X.fs → b ∉ ch → s.heap.get? b = some o → H b = none → ∃ sl, h'.get? b = some { o with slots := sl }) (free : ∀ b o, b ∉ ch → s.heap.get? b = some o → H b = none → H' b = none)
    (there : ∀ b o, b ∉ ch → s.heap.get? b = some o → ∃ o', h'.get? b = some o')
    (tups : ∀ b xs, H b = some (.tup xs) → H' b = some (.tup xs)) (frzs : ∀ b o u, H b = some (.frz o u) → H' b = some (.frz o u)) (tbls : ∀ b ps, H b = some (.tbl ps) → ∃ more, H' b = some (.tbl (ps ++ more)))
    (ns : ∀ m, s.heap.Ns X.env.locals m → h'.Ns X.env.locals m) (hok : HOk X.prog X.w H' h') (hg : AllBare g') :
    Inv X pins σ H' { s with heap := h', gens := g', drawn := d', toks := t' } := by
  have neL : ∀ b o, X.s₀.heap.get? b = some o → b ≠ X.env.locals := fun b o e => Nat.ne_of_lt (Nat.lt_of_lt_of_le (Heap.lt_size e) I.ok.above)
  have neC : ∀ b o, X.s₀.heap.get? b = some o → b ∉ X.ex → b ∉ ch := fun b o e hx hb => by
    rcases (hch b hb).1 with z | z
    · exact hx z
    · exact absurd (Nat.lt_of_lt_of_le (Heap.lt_size e) z) (Nat.lt_irrefl _)
  have cellK : ∀ x c, X.env.cells.lookup x = some c → ∀ v, s.heap.IsCell c v → h'.IsCell c v := fun x c e v ⟨o, ho, hd⟩ => by
    have nch : c ∉ ch := fun z => (hch c z).2.2.1 x c e rfl
    by_cases hc : c ∈ X.fs
    · obtain ⟨sl, q⟩ := slot c o (I.cne x c e) hc nch ho (I.freeC x c e)
      exact ⟨_, q, hd⟩
    · exact ⟨o, keep c o (I.cne x c e) hc nch ho (I.freeC x c e), hd⟩
  refine ⟨I.ok, I.os, hg, ⟨fun b o e n hb hx => ?_, fun b o e n hb hx => ?_, fun b o e n hx => ?_, fun b o e hx => ?_, fun b xs e => tups b xs (I.base.tups b xs e), fun b o xs e => frzs b o xs (I.base.frzs b o xs e), fun b ps e => ?_⟩, ?_, fun x c e => ?_, ?_, fun x c e => ?_, fun p hp => ?_, hok, I.len⟩
  · exact keep b o (neL b o e) hb (neC b o e hx) (I.base.keep b o e n hb hx) (I.base.free b o e n hx)
  · obtain ⟨sl, e1⟩ := I.base.slot b o e n hb hx
    obtain ⟨sl', e2⟩ := slot b _ (neL b o e) hb (neC b o e hx) e1 (I.base.free b o e n hx)
    exact ⟨sl', e2⟩
  · obtain ⟨o', e1⟩ := I.base.there b o e hx
    exact free b o' (neC b o e hx) e1 (I.base.free b o e n hx)
  · obtain ⟨o', e1⟩ := I.base.there b o e hx
    exact there b o' (neC b o e hx) e1
  · obtain ⟨m1, e1⟩ := I.base.tbls b ps e
    obtain ⟨m2, e2⟩ := tbls b _ e1
    exact ⟨m1 ++ m2, by rw [e2, Array.append_assoc]⟩
  · obtain ⟨m, hn, hl⟩ := I.loc
    refine ⟨m, ns m hn, fun i x v e1 e2 e3 => ?_⟩
    obtain ⟨u, r, l⟩ := hl i x v e1 e2 e3
    refine ⟨u, r, ?_⟩
    rcases l with l | ⟨k, c, e, z⟩
    · exact .inl l
    · exact .inr ⟨k, c, e, cellK x c e _ z⟩
  · obtain ⟨v, z⟩ := I.cell x c e
    exact ⟨v, cellK x c e v z⟩
  · obtain ⟨m, ⟨o, _, _, ho, _⟩, _⟩ := I.loc
    exact free _ o (fun z => (hch _ z).2.1 rfl) ho I.free
  · obtain ⟨v, o, ho, hd⟩ := I.cell x c e
    exact free c o (fun z => (hch c z).2.2.1 x c e rfl) ho (I.freeC x c e)
  · obtain ⟨e, n, ne, nf, d⟩ := I.pin p hp
    have nch : p.1 ∉ ch := fun z => (hch p.1 z).2.2.2 p hp rfl
    exact ⟨keep p.1 p.2 ne nf nch e n, free p.1 p.2 nch e n, ne, nf, d⟩
/-- .. where the frame's own object is kept too -/
theorem Inv.un {t' : Nat} (I : Inv X pins σ H s) (u : Un X.fs [] H H' s.heap h') (hok : HOk X.prog X.w H' h') : Inv X pins σ H' { s with heap := h', toks := t' } := by
  obtain ⟨m, ⟨o, es, ep, ho, r⟩, _⟩ := id I.loc
  obtain ⟨sl, hL⟩ := u.any ho I.free (by simp)
  exact I.step (g' := s.gens) (d' := s.drawn) (ch := []) (fun _ z => nomatch z) (fun b o _ hb _ e n => u.keep b o e n hb (by simp)) (fun b o _ hb _ e n => u.slot b o e n hb (by simp)) (fun b o _ e n => u.free b o e n (by simp)) (fun b o _ e => u.there b o e (by simp)) u.tups u.frzs u.tbls (fun m' hm => by
    obtain ⟨o', es', ep', ho', r'⟩ := hm
    rw [ho] at ho'; cases ho'
    exact ⟨_, es', ep', hL, r'⟩) hok I.bare
/-- behind a call (or a comprehension's block): the slots of this frame may have changed too, the records at ch may have turned -/
theorem Inv.call {g' : Array GenState} {t' : Nat} {d' : Drawn} {ch : List Addr} (I : Inv X pins σ H s) (u : Un (frs X.stack) ch H H' s.heap h') (hok : HOk X.prog X.w H' h') (hg : AllBare g')
    (hch : ∀ b ∈ ch, (b ∈ X.ex ∨ X.s₀.heap.objs.size ≤ b) ∧ b ≠ X.env.locals ∧ (∀ x c, X.env.cells.lookup x = some c → c ≠ b) ∧ ∀ p ∈ X.pn ++ pins, p.1 ≠ b) :
    Inv X pins σ H' { s with heap := h', gens := g', drawn := d', toks := t' } := by
  obtain ⟨m, ⟨o, es, ep, ho, r⟩, _⟩ := id I.loc
  obtain ⟨sl, hL⟩ := u.any ho I.free fun z => (hch _ z).2.1 rfl
  exact I.step (ch := ch) hch (fun b o hL hb hc e n => u.keep b o e n (fun z => (List.mem_cons.mp (I.stkSub b z)).elim hL hb) hc) (fun b o _ _ hc e n => u.any e n hc) (fun b o hc e n => u.free b o e n hc) (fun b o hc e => u.there b o e hc) u.tups u.frzs u.tbls (fun m' hm => by
    obtain ⟨o', es', ep', ho', r'⟩ := hm
    rw [ho] at ho'; cases ho'
    exact ⟨_, es', ep', hL, r'⟩) hok hg
/-- an untracked record of ours (an iterator) has turned -/
theorem Inv.turned {t' : Nat} {it : Addr} (I : Inv X pins σ H s) (k : ∀ b o, b ≠ it → s.heap.get? b = some o → h'.get? b = some o) (hn : H it = none) (hL : it ≠ X.env.locals)
    (h1 : it ∈ X.ex ∨ X.s₀.heap.objs.size ≤ it) (h2 : ∀ x c, X.env.cells.lookup x = some c → c ≠ it) (h3 : ∀ p ∈ X.pn ++ pins, p.1 ≠ it) : Inv X pins σ H { s with heap := h', toks := t' } := by
  have nit : ∀ b u, H b = some u → b ≠ it := fun b u e z => by rw [z, hn] at e; cases e
  refine I.step (g' := s.gens) (d' := s.drawn) (ch := [it]) (fun b hb => ?_) (fun b o _ _ hc e _ => k b o (fun z => hc (by simp [z])) e) (fun b o _ _ hc e _ => ⟨o.slots, k b o (fun z => hc (by simp [z])) e⟩) (fun _ _ _ _ n => n)
    (fun b o hc e => ⟨o, k b o (fun z => hc (by simp [z])) e⟩) (fun _ _ e => e) (fun _ _ _ e => e) (fun b ps e => ⟨#[], by rw [e]; simp⟩) (fun m hm => ?_) (fun b u e => ?_) I.bare
  · have e : b = it := by simpa using hb
    subst e
    exact ⟨h1, hL, h2, h3⟩
  · obtain ⟨o, es, ep, ho, r⟩ := hm
    exact ⟨o, es, ep, k _ o (Ne.symm hL) ho, r⟩
  · refine (I.hok b u e).stay (fun c v hc q => k c v ?_ q) (fun _ q => q) fun _ _ q => q
    rcases hc with z | z
    · rw [z]; exact nit b u e
    · exact nit c _ z
theorem Inv.tok (I : Inv X pins σ H s) (t : Nat) : Inv X pins σ H { s with toks := t } := I.un (h' := s.heap) (t' := t) Un.refl I.hok
/-- all objects kept -/
theorem Inv.kept {t' : Nat} (I : Inv X pins σ H s) (k : ∀ b u, s.heap.get? b = some u → h'.get? b = some u) : Inv X pins σ H { s with heap := h', toks := t' } := I.un (Un.kept k) (I.hok.kept k)
/-- a new object laid and tracked -/
theorem Inv.laid {a : Addr} {o : HO} {t' : Nat} (I : Inv X pins σ H s) (k : ∀ b u, s.heap.get? b = some u → h'.get? b = some u) (hp : s.heap.objs.size ≤ a) (new : ObjOk X.prog X.w (upd H a o) h' a o) :
    Inv X pins σ (upd H a o) { s with heap := h', toks := t' } := I.un (Un.laid k hp (I.hok.fresh hp)) (I.hok.laid k hp new)
/-- an object written -/
theorem Inv.write {x e : Addr} {o : HO} {t' : Nat} (I : Inv X pins σ H s) (mu : Mut (H x)) (he : e = x ∨ H e = some (.own x)) (k : ∀ b u, b ≠ e → s.heap.get? b = some u → h'.get? b = some u) (heo : ∃ u, h'.get? e = some u)
    (new : ObjOk X.prog X.w (upd H x o) h' x o) : Inv X pins σ (upd H x o) { s with heap := h', toks := t' } := I.un (Un.write mu he k heo) (I.hok.write mu he k heo new)
/-- forgetting slots, pins -/
theorem Inv.weak {σ' : List (Option V)} (I : Inv X pins σ H s) (hl : σ'.length = σ.length) (w : ∀ (i : Nat) v, σ'[i]? = some (some v) → σ[i]? = some (some v)) : Inv X pins σ' H s :=
  ⟨I.ok, I.os, I.bare, I.base, let ⟨m, hn, hl'⟩ := I.loc; ⟨m, hn, fun i x v e1 e2 e3 => hl' i x v e1 (w i v e2) e3⟩, I.cell, I.free, I.freeC, I.pin, I.hok, hl.trans I.len⟩
theorem Inv.pins_of {pins' : List (Addr × Obj)} (I : Inv X pins σ H s) (h : ∀ p ∈ pins', s.heap.get? p.1 = some p.2 ∧ H p.1 = none ∧ p.1 ≠ X.env.locals ∧ p.1 ∉ X.fs ∧ ∀ v, p.2.data ≠ .cell v) : Inv X pins' σ H s :=
  ⟨I.ok, I.os, I.bare, I.base, I.loc, I.cell, I.free, I.freeC, fun p hp => (List.mem_append.mp hp).elim (fun z => I.pin p (List.mem_append_left _ z)) (h p), I.hok, I.len⟩

theorem nodup_ix {N : List Str} (hN : N.Nodup) {i j : Nat} {x : Str} (a : N[i]? = some x) (b : N[j]? = some x) : i = j := by
  obtain ⟨h1, e1⟩ := List.getElem?_eq_some_iff.mp a
  obtain ⟨h2, e2⟩ := List.getElem?_eq_some_iff.mp b
  exact (List.getElem_inj hN).mp (e1.trans e2.symm)

/-- a name is stored; what changed -/
theorem store_ok2 {M : Model} {A : Around} {E : Value → Shared → Prop} {i : Nat} {x : Str} {v : V} {u : Value} {Q : Unit → Shared → Prop} (I : Inv X pins σ H s) (hN : X.N.Nodup) (hi : X.N[i]? = some x) (hx : Loc X.env.scope x) (r : RelV v u)
    (h : ∀ s', Inv X pins (σ.set i (some v)) H s' → (∃ a, Heap.SameBut a s.heap s'.heap ∧ (a = X.env.locals ∨ X.env.cells.lookup x = some a)) → Q () s') (hf : X.fn x = true ∨ X.env.scope.names.lookup x = some .local := by first | exact .inl rfl | exact .inr rfl | assumption) : wpAny M A (storeName X.env x u) Q E s := by
  obtain ⟨m, hn, hl⟩ := id I.loc
  have hcls : (X.env.scope.kind == .class || (X.env.scope.kind == .module && X.env.locals != X.env.globals)) = false := by rw [I.ok.kind]; rfl
  have hiσ : i < σ.length := by rw [I.len]; exact (List.getElem?_eq_some_iff.mp hi).1
  have cne := I.cne
  have tracked : ∀ {a : Addr} {h' : Heap}, (∃ o, s.heap.get? a = some o ∧ H a = none) → Heap.SameBut a s.heap h' → HOk X.prog X.w H h' := fun {a h'} ha hs b ob e => by
    obtain ⟨_, _, hfree⟩ := ha
    refine (I.hok b ob e).stay (fun c w' hc q => (hs.2 c ?_).trans q) (fun _ q => q) fun _ _ q => q
    rintro rfl
    rcases hc with rfl | hc
    · rw [hfree] at e; cases e
    · rw [hfree] at hc; cases hc
  rcases hx with hk | hk
  · refine wpAny_storeName_local hk hn (fun h' hn' hs => ?_) hcls
    obtain ⟨oL, _, _, hoL, _⟩ := id hn
    refine h _ ⟨I.ok, I.os, I.bare, ⟨fun b o e n hb hx => ?_, fun b o e n hb hx => ?_, I.base.free, fun b o e hx => ?_, I.base.tups, I.base.frzs, I.base.tbls⟩, ⟨_, hn', fun j y v' e1 e2 e3 => ?_⟩, fun y c e => ?_, I.free, I.freeC, fun p hp => ?_, tracked ⟨oL, hoL, I.free⟩ hs, by simpa using I.len⟩ ⟨_, hs, .inl rfl⟩
    · exact (hs.2 b (Nat.ne_of_lt (Nat.lt_of_lt_of_le (Heap.lt_size e) I.ok.above))).trans (I.base.keep b o e n hb hx)
    · obtain ⟨sl, e1⟩ := I.base.slot b o e n hb hx
      exact ⟨sl, (hs.2 b (Nat.ne_of_lt (Nat.lt_of_lt_of_le (Heap.lt_size e) I.ok.above))).trans e1⟩
    · obtain ⟨o', e1⟩ := I.base.there b o e hx
      exact ⟨o', (hs.2 b (Nat.ne_of_lt (Nat.lt_of_lt_of_le (Heap.lt_size e) I.ok.above))).trans e1⟩
    · by_cases hj : j = i
      · subst hj
        rw [hi] at e1; cases e1
        rw [List.getElem?_set_self hiσ] at e2
        cases e2
        exact ⟨u, r, .inl ⟨hk, by simp⟩⟩
      · rw [List.getElem?_set_ne (Ne.symm hj)] at e2
        obtain ⟨u', r', q⟩ := hl j y v' e1 e2 e3
        refine ⟨u', r', ?_⟩
        rcases q with ⟨k, e⟩ | ⟨k, c, e, z⟩
        · refine .inl ⟨k, ?_⟩
          have : y ≠ x := fun e => hj (nodup_ix hN e1 (e ▸ hi))
          simp [this, e]
        · exact .inr ⟨k, c, e, z.sameBut hs (cne y c e)⟩
    · obtain ⟨w', z⟩ := I.cell y c e
      exact ⟨w', z.sameBut hs (cne y c e)⟩
    · obtain ⟨e, n, ne, nf, d⟩ := I.pin p hp
      exact ⟨(hs.2 p.1 ne).trans e, n, ne, nf, d⟩
  · have hfn : X.fn x = true := by
      rcases hf with z | z
      · exact z
      · rw [z] at hk; cases hk
    obtain ⟨c, hc⟩ := I.ok.has x (.inl hk)
    obtain ⟨w', z⟩ := I.cell x c hc
    refine wpAny_storeName_cell I.ok.kind hk hc z (fun h' hc' hs => ?_)
    obtain ⟨oc, hoc, hocd⟩ := id z
    refine h { s with heap := h' } ⟨I.ok, I.os, I.bare, ⟨fun b o e n hb hx => ?_, fun b o e n hb hx => ?_, I.base.free, fun b o e hx => ?_, I.base.tups, I.base.frzs, I.base.tbls⟩, ⟨m, hn.sameBut hs (Ne.symm (cne x c hc)), fun j y v' e1 e2 e3 => ?_⟩, fun y c' e => ?_, I.free, I.freeC, fun p hp => ?_, tracked ⟨oc, hoc, I.freeC x c hc⟩ hs, by simpa using I.len⟩ ⟨c, hs, .inr hc⟩
    · exact (hs.2 b (Nat.ne_of_lt (Nat.lt_of_lt_of_le (Heap.lt_size e) (I.ok.cab x c hfn hc)))).trans (I.base.keep b o e n hb hx)
    · obtain ⟨sl, e1⟩ := I.base.slot b o e n hb hx
      exact ⟨sl, (hs.2 b (Nat.ne_of_lt (Nat.lt_of_lt_of_le (Heap.lt_size e) (I.ok.cab x c hfn hc)))).trans e1⟩
    · obtain ⟨o', e1⟩ := I.base.there b o e hx
      exact ⟨o', (hs.2 b (Nat.ne_of_lt (Nat.lt_of_lt_of_le (Heap.lt_size e) (I.ok.cab x c hfn hc)))).trans e1⟩
    · by_cases hj : j = i
      · subst hj
        rw [hi] at e1; cases e1
        rw [List.getElem?_set_self hiσ] at e2
        cases e2
        exact ⟨u, r, .inr ⟨.inl hk, c, hc, hc'⟩⟩
      · rw [List.getElem?_set_ne (Ne.symm hj)] at e2
        obtain ⟨u', r', q⟩ := hl j y v' e1 e2 e3
        refine ⟨u', r', ?_⟩
        rcases q with q | ⟨k, c', e, z'⟩
        · exact .inl q
        · refine .inr ⟨k, c', e, z'.sameBut hs ?_⟩
          rintro rfl
          exact hj (nodup_ix hN e1 (I.ok.inj _ _ _ e hc ▸ hi))
    · by_cases hcc : c' = c
      · subst hcc; exact ⟨_, hc'⟩
      · obtain ⟨w2, z2⟩ := I.cell y c' e
        exact ⟨w2, z2.sameBut hs hcc⟩
    · obtain ⟨e, n, ne, nf, d⟩ := I.pin p hp
      refine ⟨(hs.2 p.1 ?_).trans e, n, ne, nf, d⟩
      intro q
      rw [q, hoc] at e
      have q' : oc = p.2 := Option.some.inj e
      exact d w' (by rw [← q']; exact hocd)
theorem store_ok {M : Model} {A : Around} {E : Value → Shared → Prop} {i : Nat} {x : Str} {v : V} {u : Value} {Q : Unit → Shared → Prop} (I : Inv X pins σ H s) (hN : X.N.Nodup) (hi : X.N[i]? = some x) (hx : Loc X.env.scope x) (r : RelV v u)
    (h : ∀ s', Inv X pins (σ.set i (some v)) H s' → Q () s') (hf : X.fn x = true ∨ X.env.scope.names.lookup x = some .local := by first | exact .inl rfl | exact .inr rfl | assumption) : wpAny M A (storeName X.env x u) Q E s :=
  store_ok2 I hN hi hx r (fun s' I' _ => h s' I') hf
/-- behind a call or a block, the state as it is -/
theorem Inv.call' {s' : Shared} {ch : List Addr} (I : Inv X pins σ H s) (ho : s'.os = s.os) (u : Un (frs X.stack) ch H H' s.heap s'.heap) (hok : HOk X.prog X.w H' s'.heap) (hg : AllBare s'.gens)
    (hch : ∀ b ∈ ch, (b ∈ X.ex ∨ X.s₀.heap.objs.size ≤ b) ∧ b ≠ X.env.locals ∧ (∀ x c, X.env.cells.lookup x = some c → c ≠ b) ∧ ∀ p ∈ X.pn ++ pins, p.1 ≠ b) : Inv X pins σ H' s' := by
  obtain ⟨h', g', d', t', o'⟩ := s'
  have e : o' = s.os := ho
  subst e
  exact I.call (g' := g') (t' := t') (d' := d') u hok hg hch
end

/-! ### the judgements -/
/-- an exception: its class, its own dict's address (where it has one), the abstract heap behind it -/
abbrev XK := Value → Option Addr → Hp → Prop
abbrev St := List (Option V)
abbrev VK := V → Hp → Prop
/-- an expression's reading; a test's; an argument list's -/
abbrev TE := St → Hp → VK → Prop
abbrev TT := St → Hp → (Bool → Hp → Prop) → Prop
abbrev TA := St → Hp → (List V → Hp → Prop) → Prop
/-- what is wanted behind a statement -/
structure Ends where
  nx : St → Hp → Prop
  rt : VK
  bk : St → Hp → Prop := fun _ _ => False
  ct : St → Hp → Prop := fun _ _ => False
abbrev TS := Ends → St → Hp → Prop

def EP (X : Cx) (pins : List (Addr × Obj)) (σ : St) (Q : VK) (u : Value) (s' : Shared) : Prop := ∃ v H', Inv X pins σ H' s' ∧ RelV v u ∧ Q v H'
def TP (X : Cx) (pins : List (Addr × Obj)) (σ : St) (Q : Bool → Hp → Prop) (b : Bool) (s' : Shared) : Prop := ∃ H', Inv X pins σ H' s' ∧ Q b H'
def AP (X : Cx) (pins : List (Addr × Obj)) (σ : St) (Q : List V → Hp → Prop) (us : List Value) (s' : Shared) : Prop := ∃ vs H', Inv X pins σ H' s' ∧ Vals vs us ∧ Q vs H'
def SP (X : Cx) (pins : List (Addr × Obj)) (D : Ends) (f : Flow) (s' : Shared) : Prop :=
  match f with
  | .next => ∃ σ' H', Inv X pins σ' H' s' ∧ D.nx σ' H'
  | .brk => ∃ σ' H', Inv X pins σ' H' s' ∧ D.bk σ' H'
  | .cont => ∃ σ' H', Inv X pins σ' H' s' ∧ D.ct σ' H'
  | .ret u => ∃ v σ' H', Inv X pins σ' H' s' ∧ RelV v u ∧ D.rt v H'

def PE (X : Cx) (e : Expr) (t : TE) : Prop :=
  ∀ (pins : List (Addr × Obj)) (s : Shared) (σ : St) (H : Hp) (Q : VK), Inv X pins σ H s → t σ H Q → wpAny (model X.prog X.w) X.A (eval e X.env) (EP X pins σ Q) X.xe s
def PT (X : Cx) (e : Expr) (t : TT) : Prop :=
  ∀ (pins : List (Addr × Obj)) (s : Shared) (σ : St) (H : Hp) (Q : Bool → Hp → Prop), Inv X pins σ H s → t σ H Q → wpAny (model X.prog X.w) X.A (isTrue e X.env (eval e X.env)) (TP X pins σ Q) X.xe s
/-- a test whatever its 'whole' is (and, or) -/
def PW (X : Cx) (e : Expr) (t : TT) : Prop :=
  ∀ (whole : Sem Value) (pins : List (Addr × Obj)) (s : Shared) (σ : St) (H : Hp) (Q : Bool → Hp → Prop), Inv X pins σ H s → t σ H Q → wpAny (model X.prog X.w) X.A (isTrue e X.env whole) (TP X pins σ Q) X.xe s
theorem PW.pt {X : Cx} {e : Expr} {t : TT} (h : PW X e t) : PT X e t := h _
/-- an argument list (no star), from the left -/
def PA (X : Cx) (es : List Expr) (t : TA) : Prop :=
  ∀ (pos : Pos) (pins : List (Addr × Obj)) (s : Shared) (σ : St) (H : Hp) (Q : List V → Hp → Prop), Inv X pins σ H s → t σ H Q → wpAny (model X.prog X.w) X.A (spliced (backTo pos (starEach es X.env))) (AP X pins σ Q) X.xe s
def PS (X : Cx) (st : Stmt) (t : TS) : Prop :=
  ∀ (pins : List (Addr × Obj)) (s : Shared) (σ : St) (H : Hp) (D : Ends), Inv X pins σ H s → t D σ H → wpAny (model X.prog X.w) X.A (exec st X.env) (SP X pins D) X.xe s
def PSs (X : Cx) (st : List Stmt) (t : TS) : Prop :=
  ∀ (pins : List (Addr × Obj)) (s : Shared) (σ : St) (H : Hp) (D : Ends), Inv X pins σ H s → t D σ H → wpAny (model X.prog X.w) X.A (execs st X.env) (SP X pins D) X.xe s
/-- weaken the end -/
theorem thn {α : Type} {t : Sem α} {Q Q' : α → Shared → Prop} {M : Model} {A : Around} {E : Value → Shared → Prop} {s : Shared} (h : wpAny M A t Q E s) (hQ : ∀ a s, Q a s → Q' a s) : wpAny M A t Q' E s := wpAny_mono h hQ fun _ _ x => x
end L2

namespace L2
open PySem PySem.Spec PyProof.Rows
section
variable {X : Cx}

/-- two expressions in a row -/
theorem bin {a b : Expr} {ta tb : TE} (ha : PE X a ta) (hb : PE X b tb) {pins : List (Addr × Obj)} {s : Shared} {σ : St} {H : Hp} {R : V → V → Hp → Prop} (I : Inv X pins σ H s) (h : ta σ H fun x H1 => tb σ H1 fun y H2 => R x y H2)
    {α : Type} {Q : α → Shared → Prop} {f : Value → Value → Sem α}
    (hf : ∀ v u s2 x y H2, Inv X pins σ H2 s2 → RelV x v → RelV y u → R x y H2 → wpAny (model X.prog X.w) X.A (f v u) Q X.xe s2) :
    wpAny (model X.prog X.w) X.A (eval a X.env) (fun v s₁ => wpAny (model X.prog X.w) X.A (eval b X.env) (fun u s₂ => wpAny (model X.prog X.w) X.A (f v u) Q X.xe s₂) X.xe s₁) X.xe s := by
  refine thn (ha pins s σ H _ I h) fun v s1 ⟨x, H1, I1, r1, q1⟩ => ?_
  refine thn (hb pins s1 σ H1 _ I1 q1) fun u s2 ⟨y, H2, I2, r2, q2⟩ => ?_
  exact hf v u s2 x y H2 I2 r1 r2 q2

/-! ### names and constants -/
def tVar (i : Nat) : TE := fun σ H Q => ∃ v, σ[i]? = some (some v) ∧ Q v H
def tC (v : V) : TE := fun _ H Q => Q v H
theorem pe_var {i : Nat} {x : Str} {pos : Pos} (hN : X.N[i]? = some x) (hv : Vis X.env.scope x) (hd : (x == ("__debug__" : Str)) = false := by decide) (hcd : (x == ("__classdict__" : Str)) = false := by decide) : PE X (.Name x pos) (tVar i) := by
  intro pins s σ H Q I h
  obtain ⟨v, e, h⟩ := h
  obtain ⟨m, hn, hl⟩ := I.loc
  obtain ⟨u, r, l⟩ := hl i x v hN e hv
  have fin : EP X pins σ Q u s := ⟨v, H, I, r, h⟩
  rcases l with ⟨hk, hm⟩ | ⟨hk, c, hc, hcell⟩
  · exact wpAny_Name (wpAny_loadName_local I.ok.kind hk hn hm fin) hd
  · rcases hk with hk | hk
    · exact wpAny_Name (wpAny_loadName_cell I.ok.kind hk hc hcell fin) hd
    · exact wpAny_Name (wpAny_loadName_free I.ok.kind hk hc hcell fin hcd) hd
theorem pe_int {i j pos} : PE X (.Constant (.int i) j pos) (tC (.int i)) := fun _ _ _ H _ I h => wpAny_Constant_int ⟨.int i, H, I.tok _, ⟨_, rfl⟩, h⟩
theorem pe_bl {b j pos} : PE X (.Constant (.bool b) j pos) (tC (.bl b)) := fun _ _ _ H _ I h => Constant_bool ⟨.bl b, H, I, rfl, h⟩
theorem pe_non {j pos} : PE X (.Constant .none j pos) (tC .non) := fun _ _ _ H _ I h => Constant_none ⟨.non, H, I, rfl, h⟩
theorem pe_str {x j pos} : PE X (.Constant (.str x) j pos) (tC (.str x)) := fun _ _ _ H _ I h => Calls.Constant_str ⟨.str x, H, I.tok _, ⟨_, rfl⟩, h⟩

/-- a global name of the def -/
def Gl (X : Cx) (x : Str) : Prop := X.env.kindOf x = some .globalImplicit
theorem ld_glob {E : Value → Shared → Prop} {pins : List (Addr × Obj)} {s : Shared} {σ : St} {H : Hp} {x : Str} {u : Value} {pos : Pos} {Q : Value → Shared → Prop} (I : Inv X pins σ H s) (hg : Gl X x) (hm : X.mg x = some u) (h : Q u s)
    (hd : (x == ("__debug__" : Str)) = false := by decide) : wpAny (model X.prog X.w) X.A (eval (.Name x pos) X.env) Q E s :=
  Calls.Name_function_global I.ok.kind hg (Calls.loadGlobal_global (by rw [I.ok.glob]; exact I.mod.glob.keeps I.bk) hm h) hd
theorem ld_blt {E : Value → Shared → Prop} {pins : List (Addr × Obj)} {s : Shared} {σ : St} {H : Hp} {x : Str} {u : Value} {pos : Pos} {Q : Value → Shared → Prop} (I : Inv X pins σ H s) (hg : Gl X x) (hm : X.mg x = none) (hv : bootBuiltins x = some u) (h : Q u s)
    (hn : x ≠ "__name__" := by decide) (hd : (x == ("__debug__" : Str)) = false := by decide) : wpAny (model X.prog X.w) X.A (eval (.Name x pos) X.env) Q E s := by
  obtain ⟨mb, h1, h2⟩ := I.mod.blt
  exact Calls.Name_function_global I.ok.kind hg (Calls.loadGlobal_builtin (by rw [I.ok.glob]; exact I.mod.glob.keeps I.bk) hm (by rw [I.ok.blt]; exact h1.keeps I.bk) ((h2 x hn).trans hv) h) hd
/-- a module's constant, a class, a function, as a value -/
theorem pe_glob {x : Str} {v : V} {u : Value} {pos : Pos} (hg : Gl X x) (hm : X.mg x = some u) (r : RelV v u) (hd : (x == ("__debug__" : Str)) = false := by decide) : PE X (.Name x pos) (tC v) :=
  fun _ _ _ H _ I h => ld_glob I hg hm ⟨v, H, I, r, h⟩ hd
theorem pe_bltn {x : Str} {v : V} {u : Value} {pos : Pos} (hg : Gl X x) (hm : X.mg x = none) (hv : bootBuiltins x = some u) (r : RelV v u) (hn : x ≠ "__name__" := by decide) (hd : (x == ("__debug__" : Str)) = false := by decide) : PE X (.Name x pos) (tC v) :=
  fun _ _ _ H _ I h => ld_blt I hg hm hv ⟨v, H, I, r, h⟩ hn hd

/-! ### arithmetic -/
/-- two ints -/
def t2I (ta tb : TE) (k : Int → Int → Hp → Prop) : St → Hp → Prop := fun σ H => ta σ H fun x H1 => tb σ H1 fun y H2 => ∃ i j, x = .int i ∧ y = .int j ∧ k i j H2
def tAdd (ta tb : TE) : TE := fun σ H Q => t2I ta tb (fun i j H2 => Q (.int (i + j)) H2) σ H
def tSub (ta tb : TE) : TE := fun σ H Q => t2I ta tb (fun i j H2 => Q (.int (i - j)) H2) σ H
/-- the left factor below 2^64 -/
def tMul (ta tb : TE) : TE := fun σ H Q => t2I ta tb (fun i j H2 => (-(2 ^ 64) < i ∧ i < 2 ^ 64) ∧ Q (.int (i * j)) H2) σ H
variable {a b : Expr} {ta tb : TE} {pos : Pos}
theorem pe_add (ha : PE X a ta) (hb : PE X b tb) : PE X (.BinOp a .Add b pos) (tAdd ta tb) := by
  intro pins s σ H Q I h
  refine wpAny_BinOp (bin ha hb I h fun v u s2 x y H2 I2 rx ry q => ?_)
  obtain ⟨i, j, rfl, rfl, q⟩ := q
  obtain ⟨t, rfl⟩ := rx
  obtain ⟨t', rfl⟩ := ry
  exact add_int ⟨.int _, H2, I2.tok _, ⟨_, rfl⟩, q⟩
theorem pe_sub (ha : PE X a ta) (hb : PE X b tb) : PE X (.BinOp a .Sub b pos) (tSub ta tb) := by
  intro pins s σ H Q I h
  refine wpAny_BinOp (bin ha hb I h fun v u s2 x y H2 I2 rx ry q => ?_)
  obtain ⟨i, j, rfl, rfl, q⟩ := q
  obtain ⟨t, rfl⟩ := rx
  obtain ⟨t', rfl⟩ := ry
  exact sub_int ⟨.int _, H2, I2.tok _, ⟨_, rfl⟩, q⟩
theorem pe_mul (ha : PE X a ta) (hb : PE X b tb) : PE X (.BinOp a .Mult b pos) (tMul ta tb) := by
  intro pins s σ H Q I h
  refine wpAny_BinOp (bin ha hb I h fun v u s2 x y H2 I2 rx ry q => ?_)
  obtain ⟨i, j, rfl, rfl, ⟨q1, q2⟩, q⟩ := q
  obtain ⟨t, rfl⟩ := rx
  obtain ⟨t', rfl⟩ := ry
  exact mul_int ⟨.int _, H2, I2.tok _, ⟨_, rfl⟩, q⟩ (.of_left (intBits_le_64 q1 q2))

/-! ### comparisons -/
def PC (X : Cx) (op : CmpOp) (a b : Expr) (t : TE) : Prop :=
  ∀ (pins : List (Addr × Obj)) (s : Shared) (σ : St) (H : Hp) (Q : VK), Inv X pins σ H s → t σ H Q →
    wpAny (model X.prog X.w) X.A (eval a X.env) (fun v s₁ => wpAny (model X.prog X.w) X.A (eval b X.env) (fun u s₂ => wpAny (model X.prog X.w) X.A (compareOp op v u) (EP X pins σ Q) X.xe s₂) X.xe s₁) X.xe s
theorem nobehind (b : Expr) {op : CmpOp} (h : op ≠ .In) (h2 : op ≠ .NotIn) : behindInMarks op b = false := by
  have e1 : (op == CmpOp.In) = false := by cases op <;> first | rfl | exact absurd rfl h
  have e2 : (op == CmpOp.NotIn) = false := by cases op <;> first | rfl | exact absurd rfl h2
  cases b <;> simp [behindInMarks, e1, e2]
def tCmp (p : Int → Int → Bool) (ta tb : TE) : TE := fun σ H Q => t2I ta tb (fun i j H2 => Q (.bl (p i j)) H2) σ H
abbrev tLt : TE → TE → TE := tCmp fun i j => decide (i < j)
abbrev tLe : TE → TE → TE := tCmp fun i j => decide (i ≤ j)
abbrev tGt : TE → TE → TE := tCmp fun i j => decide (j < i)
abbrev tGe : TE → TE → TE := tCmp fun i j => decide (j ≤ i)
abbrev tEqI : TE → TE → TE := tCmp fun i j => decide (i = j)
abbrev tNeI : TE → TE → TE := tCmp fun i j => !decide (i = j)
/-- a comparison of two ints, by its rule -/
theorem pc_int {op : CmpOp} {p : Int → Int → Bool} (ha : PE X a ta) (hb : PE X b tb)
    (rule : ∀ (i j : Int) (t u : Tok) (Q : Value → Shared → Prop) (s : Shared), Q (.bool (p i j)) s → wpAny (model X.prog X.w) X.A (compareOp op (.int i t) (.int j u)) Q X.xe s) : PC X op a b (tCmp p ta tb) := by
  intro pins s σ H Q I h
  refine bin ha hb I h fun v u s2 x y H2 I2 rx ry q => ?_
  obtain ⟨i, j, rfl, rfl, q⟩ := q
  obtain ⟨t, rfl⟩ := rx
  obtain ⟨t', rfl⟩ := ry
  exact rule i j t t' _ s2 ⟨.bl _, H2, I2, rfl, q⟩
theorem pc_lt (ha : PE X a ta) (hb : PE X b tb) : PC X .Lt a b (tLt ta tb) := pc_int ha hb fun _ _ _ _ _ _ h => lt_int h
theorem pc_le (ha : PE X a ta) (hb : PE X b tb) : PC X .LtE a b (tLe ta tb) := pc_int ha hb fun _ _ _ _ _ _ h => le_int h
theorem pc_gt (ha : PE X a ta) (hb : PE X b tb) : PC X .Gt a b (tGt ta tb) := pc_int ha hb fun _ _ _ _ _ _ h => gt_int h
theorem pc_ge (ha : PE X a ta) (hb : PE X b tb) : PC X .GtE a b (tGe ta tb) := pc_int ha hb fun _ _ _ _ _ _ h => ge_int h
theorem pc_eqI (ha : PE X a ta) (hb : PE X b tb) : PC X .Eq a b (tEqI ta tb) := pc_int ha hb fun _ _ _ _ _ _ h => eq_int (by rw [Bool.beq_eq_decide_eq]; exact h)
theorem pc_neI (ha : PE X a ta) (hb : PE X b tb) : PC X .NotEq a b (tNeI ta tb) := pc_int ha hb fun _ _ _ _ _ _ h => ne_int (by rw [bne, Bool.beq_eq_decide_eq]; exact h)
/-- is None -/
def tIsN (ta : TE) : TE := fun σ H Q => ta σ H fun x H1 => Q (.bl (decide (x = .non))) H1
def tNotN (ta : TE) : TE := fun σ H Q => ta σ H fun x H1 => Q (.bl (!decide (x = .non))) H1
theorem RelV.none_iff {x : V} {v : Value} (r : RelV x v) : (v == Value.none) = decide (x = .non) := by
  cases x with
  | non => cases r; rfl
  | bl _ => cases r; rfl
  | int _ => obtain ⟨t, rfl⟩ := r; rfl
  | str _ => obtain ⟨t, rfl⟩ := r; rfl
  | byt _ => obtain ⟨t, rfl⟩ := r; rfl
  | flt _ => obtain ⟨t, rfl⟩ := r; rfl
  | ref _ => cases r; rfl
  | ty _ => cases r; rfl
theorem pc_isN {j pos'} (ha : PE X a ta) : PC X .Is a (.Constant .none j pos') (tIsN ta) := by
  intro pins s σ H Q I h
  refine thn (ha pins s σ H _ I h) fun v s1 ⟨x, H1, I1, r1, q1⟩ => ?_
  exact Constant_none (is_none_gen ⟨.bl _, H1, I1, by rw [r1.none_iff]; rfl, q1⟩)
theorem pc_notN {j pos'} (ha : PE X a ta) : PC X .IsNot a (.Constant .none j pos') (tNotN ta) := by
  intro pins s σ H Q I h
  refine thn (ha pins s σ H _ I h) fun v s1 ⟨x, H1, I1, r1, q1⟩ => ?_
  exact Constant_none (isnot_none_gen ⟨.bl _, H1, I1, by rw [r1.none_iff]; rfl, q1⟩)
/-- a comparison as a value, as a test -/
def tB (t : TE) : TT := fun σ H Q => t σ H fun x H1 => ∃ c, x = .bl c ∧ Q c H1
theorem pe_cmp {op : CmpOp} {t : TE} (h : PC X op a b t) (h1 : behindInMarks op b = false := by first | exact nobehind _ (by decide) (by decide) | rfl) : PE X (.Compare a [op] [b] pos) t := fun pins s σ H Q I hw => wpAny_Compare1 (h pins s σ H Q I hw) h1
theorem pt_cmp {op : CmpOp} {t : TE} (h : PC X op a b t) (h1 : behindInMarks op b = false := by first | exact nobehind _ (by decide) (by decide) | rfl) : PT X (.Compare a [op] [b] pos) (tB t) := by
  intro pins s σ H Q I hw
  refine wpAny_isTrue_Compare1 (thn (h pins s σ H _ I hw) fun v s1 h1 => thn h1 fun u s2 h2 => thn h2 fun c s3 ⟨x, H1, I1, r1, q1⟩ => ?_) h1
  obtain ⟨d, rfl, q⟩ := q1
  cases r1
  exact wpAny_truthy_bool ⟨H1, I1, q⟩
/-- an expression whose value is a bool, as a test -/
theorem pt_val {e : Expr} {t : TE} (h : PE X e t) (he : ∀ whole, isTrue e X.env whole = (do let v ← whole; standAt e.pos; holding [v] (truthy v)) := by intro _; rfl) : PT X e (tB t) := by
  intro pins s σ H Q I hw
  refine isTrue_plain (thn (h pins s σ H _ I hw) fun v s1 ⟨x, H1, I1, r1, q1⟩ => ?_) (he _)
  obtain ⟨d, rfl, q⟩ := q1
  cases r1
  exact wpAny_truthy_bool ⟨H1, I1, q⟩

/-! ### and, or, not -/
variable {tA tB' : TT} {rest : List Expr}
def tAnd (t u : TT) : TT := fun σ H Q => t σ H fun c H1 => if c = true then u σ H1 Q else Q false H1
def tOr (t u : TT) : TT := fun σ H Q => t σ H fun c H1 => if c = true then Q true H1 else u σ H1 Q
def tNot (t : TT) : TT := fun σ H Q => t σ H fun c H1 => Q (!c) H1
theorem pw_and1 (ha : PT X a tA) : PW X (.BoolOp .And [a] pos) tA := by
  intro wh pins s σ H Q I h
  refine isTrue_and (thn (ha pins s σ H Q I h) fun c s1 e => ?_)
  cases c with
  | true => exact isTrue_and_nil e
  | false => exact e
theorem pw_or1 (ha : PT X a tA) : PW X (.BoolOp .Or [a] pos) tA := by
  intro wh pins s σ H Q I h
  refine isTrue_or (thn (ha pins s σ H Q I h) fun c s1 e => ?_)
  cases c with
  | false => exact isTrue_or_nil e
  | true => exact e
theorem pw_and (ha : PT X a tA) (hb : PW X (.BoolOp .And (b :: rest) pos) tB') : PW X (.BoolOp .And (a :: b :: rest) pos) (tAnd tA tB') := by
  intro wh pins s σ H Q I h
  refine isTrue_and (thn (ha pins s σ H _ I h) fun c s1 ⟨H1, I1, q1⟩ => ?_)
  cases c with
  | true => exact hb wh pins s1 σ H1 Q I1 q1
  | false => exact ⟨H1, I1, q1⟩
theorem pw_or (ha : PT X a tA) (hb : PW X (.BoolOp .Or (b :: rest) pos) tB') : PW X (.BoolOp .Or (a :: b :: rest) pos) (tOr tA tB') := by
  intro wh pins s σ H Q I h
  refine isTrue_or (thn (ha pins s σ H _ I h) fun c s1 ⟨H1, I1, q1⟩ => ?_)
  cases c with
  | true => exact ⟨H1, I1, q1⟩
  | false => exact hb wh pins s1 σ H1 Q I1 q1
theorem pt_not (ha : PT X a tA) : PT X (.UnaryOp .Not a pos) (tNot tA) := by
  intro pins s σ H Q I h
  exact isTrue_not (ha pins s σ H (fun c H1 => Q (!c) H1) I h)
/-- .. as values (bools) -/
def tAndV (ta tb : TE) : TE := fun σ H Q => ta σ H fun x H1 => ∃ c, x = .bl c ∧ if c = true then tb σ H1 Q else Q (.bl false) H1
def tOrV (ta tb : TE) : TE := fun σ H Q => ta σ H fun x H1 => ∃ c, x = .bl c ∧ if c = true then Q (.bl true) H1 else tb σ H1 Q
def tNotV (ta : TE) : TE := fun σ H Q => ta σ H fun x H1 => ∃ c, x = .bl c ∧ Q (.bl (!c)) H1
theorem pe_one {op} {t : TE} (h : PE X a t) : PE X (.BoolOp op [a] pos) t := fun pins s σ H Q I hw => BoolOp_one (h pins s σ H Q I hw)
theorem pe_and (ha : PE X a ta) (hb : PE X (.BoolOp .And (b :: rest) pos) tb) : PE X (.BoolOp .And (a :: b :: rest) pos) (tAndV ta tb) := by
  intro pins s σ H Q I h
  refine BoolOp_and (thn (ha pins s σ H _ I h) fun v s1 ⟨x, H1, I1, r1, q1⟩ => ?_)
  obtain ⟨c, rfl, q1⟩ := q1
  cases r1
  refine wpAny_truthy_bool ?_
  cases c with
  | true => exact hb pins s1 σ H1 Q I1 q1
  | false => exact ⟨.bl false, H1, I1, rfl, q1⟩
theorem pe_or (ha : PE X a ta) (hb : PE X (.BoolOp .Or (b :: rest) pos) tb) : PE X (.BoolOp .Or (a :: b :: rest) pos) (tOrV ta tb) := by
  intro pins s σ H Q I h
  refine BoolOp_or (thn (ha pins s σ H _ I h) fun v s1 ⟨x, H1, I1, r1, q1⟩ => ?_)
  obtain ⟨c, rfl, q1⟩ := q1
  cases r1
  refine wpAny_truthy_bool ?_
  cases c with
  | false => exact hb pins s1 σ H1 Q I1 q1
  | true => exact ⟨.bl true, H1, I1, rfl, q1⟩
theorem pe_not (ha : PE X a ta) : PE X (.UnaryOp .Not a pos) (tNotV ta) := by
  intro pins s σ H Q I h
  refine UnaryOp_ (thn (ha pins s σ H _ I h) fun v s1 ⟨x, H1, I1, r1, q1⟩ => ?_)
  obtain ⟨c, rfl, q1⟩ := q1
  cases r1
  exact not_of (wpAny_truthy_bool ⟨.bl (!c), H1, I1, rfl, q1⟩)
/-- a if t else b -/
def tIf (t : TT) (ta tb : TE) : TE := fun σ H Q => t σ H fun c H1 => if c = true then ta σ H1 Q else tb σ H1 Q
theorem pe_ifExp {c : Expr} (hc : PT X c tA) (ha : PE X a ta) (hb : PE X b tb) : PE X (.IfExp c a b pos) (tIf tA ta tb) := by
  intro pins s σ H Q I h
  refine wpAny_IfExp (thn (hc pins s σ H _ I h) fun d s1 ⟨H1, I1, q1⟩ => ?_)
  cases d with
  | true => exact ha pins s1 σ H1 Q I1 q1
  | false => exact hb pins s1 σ H1 Q I1 q1
end
end L2

namespace L2
open PySem PySem.Spec PyProof.Rows

/-! ### a list, a tuple that is read: tracked, frozen, or an object of the module -/
def SqL (K : PySem.W.Frag) (H : Hp) (a : Addr) (xs : List V) : Prop :=
  Rd H a (.lst xs) ∨
    ∃ (o : Obj) (its : Array Value) (n : Nat), K.lookup a = some o ∧ o.cls = .type "list" ∧ o.dict = none ∧ o.data = .seq its n ∧ its.size ≤ sizeLine ∧ Vals xs its.toList
def SqT (K : PySem.W.Frag) (H : Hp) (a : Addr) (xs : List V) : Prop :=
  Rd H a (.tup xs) ∨
    ∃ (o : Obj) (its : Array Value) (n : Nat), K.lookup a = some o ∧ o.cls = .type "tuple" ∧ o.data = .seq its n ∧ its.size ≤ sizeLine ∧ Vals xs its.toList
def absV : Value → Option V
  | .none => some .non
  | .bool b => some (.bl b)
  | .int i _ => some (.int i)
  | .str x _ => some (.str x)
  | .bytes b _ => some (.byt b)
  | .float b _ => some (.flt b)
  | .ref a => some (.ref a)
  | .type n => some (.ty n)
  | _ => none
theorem RelV.abs {x : V} {u : Value} (r : RelV x u) : absV u = some x := by
  cases x with
  | non => cases r; rfl
  | bl _ => cases r; rfl
  | int _ => obtain ⟨t, rfl⟩ := r; rfl
  | str _ => obtain ⟨t, rfl⟩ := r; rfl
  | byt _ => obtain ⟨t, rfl⟩ := r; rfl
  | flt _ => obtain ⟨t, rfl⟩ := r; rfl
  | ref _ => cases r; rfl
  | ty _ => cases r; rfl
theorem RelV.inj {x y : V} {u : Value} (r : RelV x u) (q : RelV y u) : x = y := Option.some.inj (r.abs.symm.trans q.abs)
theorem Vals.inj : ∀ {xs ys : List V} {us : List Value}, Vals xs us → Vals ys us → xs = ys
  | _, _, _, .nil, .nil => rfl
  | _, _, _, .cons r t, .cons r' t' => by rw [r.inj r', Vals.inj t t']
section
variable {X : Cx} {pins : List (Addr × Obj)} {σ : St} {H : Hp} {s : Shared} {a : Addr} {xs ys : List V}
theorem SqL.of {K : PySem.W.Frag} (h : H a = some (.lst xs)) : SqL K H a xs := .inl (.inl h)
theorem SqT.of {K : PySem.W.Frag} (h : H a = some (.tup xs)) : SqT K H a xs := .inl (.inl h)
theorem Inv.list (I : Inv X pins σ H s) (h : SqL X.K H a xs) : ∃ its : List Value, Vals xs its ∧ PlainL s.heap a its.toArray ∧ xs.length ≤ sizeLine := by
  rcases h with h | ⟨o, its, n, hk, hc, hd, hs, hz, r⟩
  · obtain ⟨z, its, n, r, e⟩ := h.ok I.hok
    exact ⟨its, r, ⟨_, n, e, rfl, rfl, rfl⟩, z⟩
  · refine ⟨its.toList, r, ⟨o, n, I.kIn a o hk, hc, hd, by simpa using hs⟩, ?_⟩
    have e := r.length
    simp only [Array.length_toList] at e
    omega
theorem Inv.tuple (I : Inv X pins σ H s) (h : SqT X.K H a xs) : ∃ its : List Value, Vals xs its ∧ IsTup s.heap a its.toArray ∧ xs.length ≤ sizeLine := by
  rcases h with h | ⟨o, its, n, hk, hc, hs, hz, r⟩
  · obtain ⟨z, its, r, p⟩ := h.ok I.hok
    exact ⟨its, r, p, z⟩
  · refine ⟨its.toList, r, ⟨o, I.kIn a o hk, hc, n, by simpa using hs⟩, ?_⟩
    have e := r.length
    simp only [Array.length_toList] at e
    omega
theorem Inv.list_inj (I : Inv X pins σ H s) (h : SqL X.K H a xs) (h' : SqL X.K H a ys) : xs = ys := by
  obtain ⟨its, r, ⟨o, n, e, _, _, d⟩, _⟩ := I.list h
  obtain ⟨its', r', ⟨o', n', e', _, _, d'⟩, _⟩ := I.list h'
  rw [e] at e'; cases e'
  rw [d] at d'
  injection d' with d1 _
  have : its = its' := by simpa using congrArg Array.toList d1
  subst this
  exact r.inj r'
theorem Inv.tuple_inj (I : Inv X pins σ H s) (h : SqT X.K H a xs) (h' : SqT X.K H a ys) : xs = ys := by
  obtain ⟨its, r, ⟨o, e, _, n, d⟩, _⟩ := I.tuple h
  obtain ⟨its', r', ⟨o', e', _, n', d'⟩, _⟩ := I.tuple h'
  rw [e] at e'; cases e'
  rw [d] at d'
  injection d' with d1 _
  have : its = its' := by simpa using congrArg Array.toList d1
  subst this
  exact r.inj r'
end

/-! ### another wish about exceptions -/
abbrev Cx.wish (X : Cx) (E : Value → Shared → Prop) : Cx := { X with xe := E }
/-- no exception leaves -/
abbrev Cx.nox (X : Cx) : Cx := X.wish fun _ _ => False
theorem Cx.Ok.wish {X : Cx} (ok : X.Ok) (E : Value → Shared → Prop) : (X.wish E).Ok :=
  ⟨ok.mod, ok.kind, ok.glob, ok.blt, ok.above, ok.inj, ok.has, ok.cab, ok.hd, ok.frames, ok.stk, ok.exf, ok.bs, ok.bsz, ok.noex, ok.exfs, ok.funs, ok.frf⟩
theorem Cx.Ok.unwish {X : Cx} {E : Value → Shared → Prop} (ok : (X.wish E).Ok) : X.Ok :=
  ⟨ok.mod, ok.kind, ok.glob, ok.blt, ok.above, ok.inj, ok.has, ok.cab, ok.hd, ok.frames, ok.stk, ok.exf, ok.bs, ok.bsz, ok.noex, ok.exfs, ok.funs, ok.frf⟩
section
variable {X : Cx} {pins : List (Addr × Obj)} {σ : St} {H : Hp} {s : Shared} {E : Value → Shared → Prop}
theorem Inv.wish (I : Inv X pins σ H s) (E : Value → Shared → Prop) : Inv (X.wish E) pins σ H s := ⟨I.ok.wish E, I.os, I.bare, I.base, I.loc, I.cell, I.free, I.freeC, I.pin, I.hok, I.len⟩
theorem Inv.unwish (I : Inv (X.wish E) pins σ H s) : Inv X pins σ H s := ⟨I.ok.unwish, I.os, I.bare, I.base, I.loc, I.cell, I.free, I.freeC, I.pin, I.hok, I.len⟩
theorem SP.unwish {D : Ends} {f : Flow} {s' : Shared} (h : SP (X.wish E) pins D f s') : SP X pins D f s' := by
  cases f with
  | next => obtain ⟨σ', H', I, q⟩ := h; exact ⟨σ', H', I.unwish, q⟩
  | brk => obtain ⟨σ', H', I, q⟩ := h; exact ⟨σ', H', I.unwish, q⟩
  | cont => obtain ⟨σ', H', I, q⟩ := h; exact ⟨σ', H', I.unwish, q⟩
  | ret u => obtain ⟨v, σ', H', I, r, q⟩ := h; exact ⟨v, σ', H', I.unwish, r, q⟩
theorem PE.nox {e : Expr} {t : TE} (h : PE X.nox e t) : PE X e t := fun pins s σ H Q I hw =>
  wpAny_mono (h pins s σ H Q (I.wish _) hw) (fun _ _ ⟨v, H', I', r, q⟩ => ⟨v, H', I'.unwish, r, q⟩) fun _ _ z => False.elim z
theorem PT.nox {e : Expr} {t : TT} (h : PT X.nox e t) : PT X e t := fun pins s σ H Q I hw =>
  wpAny_mono (h pins s σ H Q (I.wish _) hw) (fun _ _ ⟨H', I', q⟩ => ⟨H', I'.unwish, q⟩) fun _ _ z => False.elim z
theorem PSs.nox {st : List Stmt} {t : TS} (h : PSs X.nox st t) : PSs X st t := fun pins s σ H D I hw =>
  wpAny_mono (h pins s σ H D (I.wish _) hw) (fun _ _ q => q.unwish) fun _ _ z => False.elim z
end

/-! ### blocks and small statements -/
section
variable {X : Cx} {st : Stmt} {rest : List Stmt} {t u : TS} {e : Expr} {te : TE} {pos : Pos}
def tNext : TS := fun D σ H => D.nx σ H
def tSeq (t u : TS) : TS := fun D σ H => t { D with nx := u D } σ H
theorem pss_nil : PSs X [] tNext := fun _ _ σ H _ I h => wpAny_execs_nil ⟨σ, H, I, h⟩
theorem pss_cons (h1 : PS X st t) (h2 : PSs X rest u) : PSs X (st :: rest) (tSeq t u) := by
  intro pins s σ H D I h
  refine wpAny_execs_cons (thn (h1 pins s σ H { D with nx := u D } I h) fun f s1 q => ?_)
  cases f with
  | next =>
    obtain ⟨σ', H', I', q⟩ := q
    exact h2 pins s1 σ' H' D I' q
  | ret v => exact q
  | brk => exact q
  | cont => exact q
theorem pss_one (h1 : PS X st t) : PSs X [st] t := by
  intro pins s σ H D I h
  refine wpAny_execs_cons (thn (h1 pins s σ H D I h) fun f s1 q => ?_)
  cases f with
  | next => exact wpAny_execs_nil q
  | ret v => exact q
  | brk => exact q
  | cont => exact q
def tBreak : TS := fun D σ H => D.bk σ H
def tCont : TS := fun D σ H => D.ct σ H
theorem ps_pass : PS X (.Pass pos) tNext := fun _ _ σ H _ I h => wpAny_Pass ⟨σ, H, I, h⟩
theorem ps_break : PS X (.Break pos) tBreak := fun _ _ σ H _ I h => wpAny_Break ⟨σ, H, I, h⟩
theorem ps_continue : PS X (.Continue pos) tCont := fun _ _ σ H _ I h => wpAny_Continue ⟨σ, H, I, h⟩
/-- in a def's body nothing is shown -/
theorem Inv.quiet {pins : List (Addr × Obj)} {σ : St} {H : Hp} {s : Shared} (I : Inv X pins σ H s) : interactive X.env = false := by simp [interactive, I.ok.kind]
/-- a docstring -/
theorem ps_doc {x j pos pos'} : PS X (.Expr (.Constant (.str x) j pos) pos') tNext := fun _ s σ H _ I h => wpAny_Expr (Calls.Constant_str (show SP X _ _ .next { s with toks := s.toks + 1 } from ⟨σ, H, I.tok _, h⟩)) I.quiet
/-- an expression whose value is dropped -/
def tDrop (te : TE) : TS := fun D σ H => te σ H fun _ H1 => D.nx σ H1
theorem ps_expr (he : PE X e te) (hs : swapsWith e none pos.line X.env = pure false := by rfl) : PS X (.Expr e pos) (tDrop te) := by
  intro pins s σ H D I h
  exact wpAny_Expr_any (thn (he pins s σ H _ I h) fun v s1 ⟨x, H1, I1, r1, q1⟩ => ⟨σ, H1, I1, q1⟩) I.quiet hs
def tRet (te : TE) : TS := fun D σ H => te σ H D.rt
theorem ps_ret (he : PE X e te) : PS X (.Return (some e) pos) (tRet te) := by
  intro pins s σ H D I h
  exact wpAny_Return_some (thn (he pins s σ H _ I h) fun v s1 ⟨x, H1, I1, r1, q1⟩ => ⟨x, σ, H1, I1, r1, q1⟩)
def tRetN : TS := fun D _ H => D.rt .non H
theorem ps_retN : PS X (.Return none pos) tRetN := fun _ _ σ H _ I h => wpAny_Return_none ⟨.non, σ, H, I, rfl, h⟩
def tIfS (c : TT) (t u : TS) : TS := fun D σ H => c σ H fun b H1 => if b = true then t D σ H1 else u D σ H1
theorem ps_if {c : Expr} {a b : List Stmt} {tc : TT} (hc : PT X c tc) (ha : PSs X a t) (hb : PSs X b u) : PS X (.If c a b pos) (tIfS tc t u) := by
  intro pins s σ H D I h
  refine wpAny_If (thn (hc pins s σ H _ I h) fun d s1 ⟨H1, I1, q1⟩ => ?_)
  cases d with
  | true => exact ha pins s1 σ H1 D I1 q1
  | false => exact hb pins s1 σ H1 D I1 q1
/-- code that the proof never comes to -/
def tNever : TS := fun _ _ _ => False
theorem ps_never : PS X st tNever := fun _ _ _ _ _ _ h => h.elim
theorem pss_never {sts : List Stmt} : PSs X sts tNever := fun _ _ _ _ _ _ h => h.elim
end

/-! ### targets -/
abbrev TG := V → St → Hp → (St → Hp → Prop) → Prop
abbrev TGs := List V → St → Hp → (St → Hp → Prop) → Prop
def PG (X : Cx) (target : Expr) (t : TG) : Prop :=
  ∀ (pins : List (Addr × Obj)) (s : Shared) (σ : St) (H : Hp) (v : V) (u : Value) (Q : St → Hp → Prop), Inv X pins σ H s → RelV v u → t v σ H Q →
    wpAny (model X.prog X.w) X.A (assign target X.env u) (fun _ s' => ∃ σ' H', Inv X pins σ' H' s' ∧ Q σ' H') X.xe s
/-- several targets, one after another -/
def PGs (X : Cx) (ts : List Expr) (t : TGs) : Prop :=
  ∀ (pins : List (Addr × Obj)) (s : Shared) (σ : St) (H : Hp) (vs : List V) (us : List Value) (Q : St → Hp → Prop), Inv X pins σ H s → Vals vs us → t vs σ H Q →
    wpAny (model X.prog X.w) X.A (assignInOrder ((assignEach ts X.env).map (·.2)) us) (fun _ s' => ∃ σ' H', Inv X pins σ' H' s' ∧ Q σ' H') X.xe s
/-- o[i] = v, by values -/
abbrev TSet := V → V → V → Hp → (Hp → Prop) → Prop
def PSet (X : Cx) (t : TSet) : Prop :=
  ∀ (pins : List (Addr × Obj)) (s : Shared) (σ : St) (H : Hp) (o i v : V) (ov iv u : Value) (Q : Hp → Prop), Inv X pins σ H s → RelV o ov → RelV i iv → RelV v u → t o i v H Q →
    wpAny (model X.prog X.w) X.A (setItem ov iv u) (fun _ s' => ∃ H', Inv X pins σ H' s' ∧ Q H') X.xe s
/-- a op= b, by values -/
abbrev TIp := V → V → Hp → VK → Prop
def PIp (X : Cx) (op : Operator) (t : TIp) : Prop :=
  ∀ (pins : List (Addr × Obj)) (s : Shared) (σ : St) (H : Hp) (x y : V) (v u : Value) (Q : VK), Inv X pins σ H s → RelV x v → RelV y u → t x y H Q →
    wpAny (model X.prog X.w) X.A (inplaceOp op v u) (EP X pins σ Q) X.xe s
section
variable {X : Cx} {pos : Pos}
def gName (i : Nat) : TG := fun v σ H Q => Q (σ.set i (some v)) H
theorem pg_name {i : Nat} {x : Str} (hN : X.N.Nodup) (hi : X.N[i]? = some x) (hx : Loc X.env.scope x) (hf : X.fn x = true ∨ X.env.scope.names.lookup x = some .local := by first | exact .inl rfl | exact .inr rfl | assumption) : PG X (.Name x pos) (gName i) := by
  intro pins s σ H v u Q I r h
  exact wpAny_assign_Name (store_ok I hN hi hx r (fun s' I' => ⟨_, H, I', h⟩) hf)
def gNil : TGs := fun vs σ H Q => vs = [] ∧ Q σ H
def gCons (t : TG) (u : TGs) : TGs := fun vs σ H Q => ∃ v r, vs = v :: r ∧ t v σ H fun σ' H' => u r σ' H' Q
theorem pgs_nil : PGs X [] gNil := by
  intro pins s σ H vs us Q I r h
  obtain ⟨e, h⟩ := h
  subst e
  cases r
  exact assignInOrder_nil ⟨σ, H, I, h⟩
theorem pgs_cons {e : Expr} {es : List Expr} {t : TG} {u : TGs} (h1 : PG X e t) (h2 : PGs X es u)
    (hs : (assignEach (e :: es) X.env).map (·.2) = assign e X.env :: (assignEach es X.env).map (·.2) := by rfl) : PGs X (e :: es) (gCons t u) := by
  intro pins s σ H vs us Q I r h
  obtain ⟨v, vr, e1, h⟩ := h
  subst e1
  cases r with
  | cons r rr =>
    rw [hs]
    refine assignInOrder_cons (thn (h1 pins s σ H _ _ _ I r h) fun _ s1 ⟨σ1, H1, I1, q1⟩ => ?_)
    exact h2 pins s1 σ1 H1 _ _ Q I1 rr q1
/-- (a, b, ..) = a tuple of that length -/
def gTup (K : PySem.W.Frag) (n : Nat) (t : TGs) : TG := fun v σ H Q => ∃ a xs, v = .ref a ∧ SqT K H a xs ∧ xs.length = n ∧ t xs σ H Q
theorem pg_tup {es : List Expr} {k : Nat} {t : TGs} {n : Nat} (hc : X.calm = true) (h : PGs X es t)
    (hn : (assignEach es X.env).length = n := by rfl) (hst : (assignEach es X.env).findIdx? (·.1) = none := by rfl) : PG X (.Tuple es k pos) (gTup X.K n t) := by
  intro pins s σ H v u Q I r hw
  obtain ⟨a, xs, e1, hq, hl, hw⟩ := hw
  subst e1
  cases r
  obtain ⟨its, rv, ht, hz⟩ := I.tuple hq
  refine assign_Tuple_tuple (I.ok.hd hc) ht (by simp [hn, ← hl, rv.length]) hst fun h' hx => ?_
  have I1 : Inv X pins σ H { s with heap := h' } := I.kept (t' := s.toks) fun b o e => hx b o (Nat.ne_of_lt (Heap.lt_size e)) e
  exact h pins _ σ H xs _ Q I1 (by simpa using rv) hw
/-- o[i] = .. -/
def gSub (to ti : TE) (t : TSet) : TG := fun v σ H Q => to σ H fun o H1 => ti σ H1 fun i H2 => t o i v H2 fun H3 => Q σ H3
theorem pg_sub {o i : Expr} {to ti : TE} {t : TSet} (ho : PE X o to) (hi : PE X i ti) (hs : PSet X t)
    (ha : ∀ v, assign (.Subscript o i pos) X.env v = (do
      let ov ← holding [v] (eval o X.env)
      let iv ← holding [v, ov] (eval i X.env)
      standAt pos
      holding [v, ov, iv] (setItem ov iv v)
      release [v, ov, iv] []) := by intro _; rfl) : PG X (.Subscript o i pos) (gSub to ti t) := by
  intro pins s σ H v u Q I r h
  rw [ha]
  refine wpAny_bind (wpAny_holding (thn (ho pins s σ H _ I h) fun ov s1 ⟨x, H1, I1, r1, q1⟩ => ?_))
  refine wpAny_bind (wpAny_holding (thn (hi pins s1 σ H1 _ I1 q1) fun iv s2 ⟨y, H2, I2, r2, q2⟩ => ?_))
  refine wpAny_bind (wpAny_standAt (wpAny_bind (wpAny_holding (thn (hs pins s2 σ H2 x y v ov iv u _ I2 r1 r2 r q2) fun _ s3 ⟨H3, I3, q3⟩ => ?_))))
  exact wpAny_release ⟨σ, H3, I3, q3⟩
/-- target = value -/
def tAsg (te : TE) (g : TG) : TS := fun D σ H => te σ H fun x H1 => g x σ H1 D.nx
theorem ps_asg {tg e : Expr} {te : TE} {g : TG} (he : PE X e te) (hg : PG X tg g) (hs : swapsWithSole [tg] e pos.line X.env = pure false := by rfl) (hw : swappedStores [tg] e X.env = pure none := by rfl)
    (h1 : (assignEach [tg] X.env).map (·.2) = [assign tg X.env] := by rfl) : PS X (.Assign [tg] e pos) (tAsg te g) := by
  intro pins s σ H D I h
  refine wpAny_Assign_stores (thn (he pins s σ H _ I h) fun v s1 ⟨x, H1, I1, r1, q1⟩ => ?_) hs hw
  rw [h1]
  exact thn (hg pins s1 σ H1 x v _ I1 r1 q1) fun _ s2 q => q
/-- name = value -/
theorem ps_set {i : Nat} {x : Str} {e : Expr} {te : TE} {pos' : Pos} (hN : X.N.Nodup) (hi : X.N[i]? = some x) (hx : Loc X.env.scope x) (he : PE X e te) (hs : swapsWith e (some (.Name x pos')) pos.line X.env = pure false := by rfl) (hf : X.fn x = true ∨ X.env.scope.names.lookup x = some .local := by first | exact .inl rfl | exact .inr rfl | assumption) :
    PS X (.Assign [.Name x pos'] e pos) (tAsg te (gName i)) := by
  intro pins s σ H D I h
  refine wpAny_Assign_Name (thn (he pins s σ H _ I h) fun v s1 ⟨y, H1, I1, r1, q1⟩ => ?_) hs
  exact store_ok I1 hN hi hx r1 (fun s2 I2 => ⟨_, H1, I2, q1⟩) hf
/-- a, b = x, y with plain local names: stored from the right; the pair itself is not tracked (the opening rows as in PyProof/Rows/TupAssign.lean:23) -/
def tPar (i j : Nat) (ta : TA) : TS := fun D σ H => ta σ H fun vs H1 => ∃ v w, vs = [v, w] ∧ D.nx ((σ.set i (some v)).set j (some w)) H1
theorem ps_par {i j : Nat} {x y : Str} {a b : Expr} {ta : TA} {px py pt : Pos} {kt k2 pt2} (hc : X.calm = true) (hN : X.N.Nodup) (hi : X.N[i]? = some x) (hj : X.N[j]? = some y) (hij : i ≠ j)
    (hx : X.env.scope.names.lookup x = some .local) (hy : X.env.scope.names.lookup y = some .local) (ha : PA X [a, b] ta)
    (hw : swappedStores [.Tuple [.Name x px, .Name y py] kt pt] (.Tuple [a, b] k2 pt2) X.env = pure (some [x, y]))
    (hs : swapsWithSole [.Tuple [.Name x px, .Name y py] kt pt] (.Tuple [a, b] k2 pt2) pos.line X.env = pure false := by rfl) :
    PS X (.Assign [.Tuple [.Name x px, .Name y py] kt pt] (.Tuple [a, b] k2 pt2) pos) (tPar i j ta) := by
  intro pins s σ H D I h
  rw [exec_Assign_arm]
  refine wpAny_bind (wpAny_standAt ?_)
  rw [hs]
  refine wpAny_bind (wpAny_pure ?_)
  rw [if_neg (by decide)]
  refine wpAny_bind (Tuple_ (thn (ha _ pins s σ H _ I h) fun us s1 ⟨vs, H1, I1, r1, q1⟩ => ?_))
  obtain ⟨v, w, e1, q1⟩ := q1
  subst e1
  obtain ⟨u1, u2, rfl, rv, rw'⟩ : ∃ u1 u2, us = [u1, u2] ∧ RelV v u1 ∧ RelV w u2 := by
    cases r1 with
    | cons p q =>
      cases q with
      | cons p' q' =>
        cases q'
        exact ⟨_, _, rfl, p, p'⟩
  refine wpAny_newObj_type ?_ (by show 2 ≤ sizeLine; decide)
  have I2 : Inv X pins σ H1 { s1 with heap := s1.heap.push { cls := .type "tuple", data := .seq [u1, u2].toArray } } := I1.kept (t' := s1.toks) fun b o e => Heap.get?_push_of_some _ e
  rw [hw]
  refine wpAny_bind (wpAny_pure ?_)
  show wpAny (model X.prog X.w) X.A (do rule "assign.swapped-stores"; let items ← unpackItems (.ref s1.heap.objs.size) 2 none; assignInOrder [fun v => bindName X.env y v, fun v => bindName X.env x v] items.reverse; pure Flow.next) _ _ _
  refine wpAny_bind (wpAny_rule (wpAny_bind (unpackItems_tuple (items := #[u1, u2]) (I.ok.hd hc) (IsTup.new s1.heap _) fun h' hx' => ?_)))
  have I3 := I2.kept (h' := h') (t' := s1.toks) fun b o e => hx' b o (Nat.ne_of_lt (Heap.lt_size e)) e
  show wpAny _ _ (assignInOrder [fun v => bindName X.env y v, fun v => bindName X.env x v] [u2, u1] >>= fun _ => pure Flow.next) _ _ _
  refine wpAny_bind (assignInOrder_cons (wpAny_bindName (store_ok I3 hN hj (.inl hy) rw' (fun s2 I4 => ?_) (.inr hy))))
  refine assignInOrder_cons (wpAny_bindName (store_ok I4 hN hi (.inl hx) rv (fun s3 I5 => assignInOrder_nil (wpAny_pure ?_)) (.inr hx)))
  rw [List.set_comm _ _ (Ne.symm hij)] at I5
  exact ⟨_, H1, I5, q1⟩
/-- name op= e -/
def tAug (i : Nat) (te : TE) (ti : TIp) : TS := fun D σ H => ∃ x, σ[i]? = some (some x) ∧ te σ H fun y H1 => ti x y H1 fun z H2 => D.nx (σ.set i (some z)) H2
theorem ps_aug {i : Nat} {x : Str} {e : Expr} {te : TE} {op : Operator} {ti : TIp} {pos' : Pos} (hN : X.N.Nodup) (hi : X.N[i]? = some x) (hx : Loc X.env.scope x) (he : PE X e te) (ho : PIp X op ti) (hf : X.fn x = true ∨ X.env.scope.names.lookup x = some .local := by first | exact .inl rfl | exact .inr rfl | assumption) :
    PS X (.AugAssign (.Name x pos') op e pos) (tAug i te ti) := by
  intro pins s σ H D I h
  obtain ⟨v, e1, h⟩ := h
  obtain ⟨m, hn, hl⟩ := I.loc
  have vis : Vis X.env.scope x := by rcases hx with k | k; exact .inl k; exact .inr (.inl k)
  obtain ⟨u, r, l⟩ := hl i x v hi e1 vis
  refine wpAny_AugAssign_Name ?_
  have go : wpAny (model X.prog X.w) X.A (eval e X.env) (fun w s₂ => wpAny (model X.prog X.w) X.A (inplaceOp op u w) (fun r s₃ => wpAny (model X.prog X.w) X.A (storeName X.env x r) (fun _ => SP X pins D .next) X.xe s₃) X.xe s₂) X.xe s := by
    refine thn (he pins s σ H _ I h) fun w s1 ⟨y, H1, I1, r1, q1⟩ => ?_
    refine thn (ho pins s1 σ H1 v y u w _ I1 r r1 q1) fun z s2 ⟨zv, H2, I2, r2, q2⟩ => ?_
    exact store_ok I2 hN hi hx r2 (fun s3 I3 => ⟨_, H2, I3, q2⟩) hf
  rcases l with ⟨hk, hm⟩ | ⟨hk, c, hc, hcell⟩
  · exact wpAny_loadName_local I.ok.kind hk hn hm go
  · rcases hk with hk | hk
    · exact wpAny_loadName_cell I.ok.kind hk hc hcell go
    · rcases hx with k | k
      · have : X.env.scope.names.lookup x = some .free := hk
        rw [k] at this; cases this
      · have : X.env.scope.names.lookup x = some .free := hk
        rw [k] at this; cases this
/-- o[i] op= e -/
def tAugS (to ti te : TE) (tget : V → V → Hp → VK → Prop) (tip : TIp) (tset : TSet) : TS := fun D σ H => to σ H fun o H1 => ti σ H1 fun i H2 => tget o i H2 fun x H3 => te σ H3 fun y H4 => tip x y H4 fun z H5 => tset o i z H5 fun H6 => D.nx σ H6
/-- o[i], by values -/
def PGet (X : Cx) (t : V → V → Hp → VK → Prop) : Prop :=
  ∀ (pins : List (Addr × Obj)) (s : Shared) (σ : St) (H : Hp) (o i : V) (ov iv : Value) (Q : VK), Inv X pins σ H s → RelV o ov → RelV i iv → t o i H Q →
    wpAny (model X.prog X.w) X.A (getItem ov iv) (EP X pins σ Q) X.xe s
theorem ps_augS {o i e : Expr} {to ti te : TE} {tget : V → V → Hp → VK → Prop} {tip : TIp} {tset : TSet} {op : Operator} {tpos : Pos} (ho : PE X o to) (hi : PE X i ti) (hg : PGet X tget) (he : PE X e te) (hp : PIp X op tip) (hs : PSet X tset)
    (ha : ∀ ov iv new, augStore i ov iv new = (do holding [new, ov, iv] (setItem ov iv new); release [new, ov, iv] []; pure .next) := by intros; rfl) : PS X (.AugAssign (.Subscript o i tpos) op e pos) (tAugS to ti te tget tip tset) := by
  intro pins s σ H D I h
  refine wpAny_AugAssign_SubscriptAny (thn (ho pins s σ H _ I h) fun ov s1 ⟨x1, H1, I1, r1, q1⟩ => ?_) ha
  refine thn (hi pins s1 σ H1 _ I1 q1) fun iv s2 ⟨x2, H2, I2, r2, q2⟩ => ?_
  refine thn (hg pins s2 σ H2 x1 x2 ov iv _ I2 r1 r2 q2) fun old s3 ⟨x3, H3, I3, r3, q3⟩ => ?_
  refine thn (he pins s3 σ H3 _ I3 q3) fun v s4 ⟨x4, H4, I4, r4, q4⟩ => ?_
  refine thn (hp pins s4 σ H4 x3 x4 old v _ I4 r3 r4 q4) fun new s5 ⟨x5, H5, I5, r5, q5⟩ => ?_
  exact thn (hs pins s5 σ H5 x1 x2 x5 ov iv new _ I5 r1 r2 r5 q5) fun _ s6 ⟨H6, I6, q6⟩ => ⟨σ, H6, I6, q6⟩
/-- ints -/
def ipI (f : Int → Int → Int) : TIp := fun x y H Q => ∃ i j, x = .int i ∧ y = .int j ∧ Q (.int (f i j)) H
theorem ip_add : PIp X .Add (ipI fun i j => i + j) := by
  intro pins s σ H x y v u Q I r1 r2 h
  obtain ⟨i, j, e1, e2, q⟩ := h
  subst e1; subst e2
  obtain ⟨t, rfl⟩ := r1
  obtain ⟨t', rfl⟩ := r2
  exact iadd_int ⟨.int _, H, I.tok _, ⟨_, rfl⟩, q⟩
theorem ip_sub : PIp X .Sub (ipI fun i j => i - j) := by
  intro pins s σ H x y v u Q I r1 r2 h
  obtain ⟨i, j, e1, e2, q⟩ := h
  subst e1; subst e2
  obtain ⟨t, rfl⟩ := r1
  obtain ⟨t', rfl⟩ := r2
  exact isub_int ⟨.int _, H, I.tok _, ⟨_, rfl⟩, q⟩
end

/-! ### while -/
section
variable {X : Cx} {pos : Pos}
/-- the invariant W with its measure -/
def tWhile (c : TT) (tb : TS) : TS := fun D σ H => ∃ W : Nat → St → Hp → Prop, (∃ m, W m σ H) ∧ ∀ m σ H, W m σ H →
  c σ H fun b H1 => if b = true then ∃ N : St → Hp → Prop, (∀ σ' H', N σ' H' → ∃ m', m' < m ∧ W m' σ' H') ∧ tb { D with nx := N, ct := N, bk := D.nx } σ H1 else D.nx σ H1
theorem ps_while {c : Expr} {body : List Stmt} {tc : TT} {tb : TS} (hp : PassesOwn (model X.prog X.w) X.A X.env X.xe) (hc : PT X c tc) (hb : PSs X body tb) : PS X (.While c body [] pos) (tWhile tc tb) := by
  intro pins s σ H D I h
  obtain ⟨W, ⟨m0, w0⟩, turn⟩ := h
  refine wpAny_While (codeAny_whileLoop (fun n s' => ∃ σ' H', Inv X pins σ' H' s' ∧ W n σ' H') ?_ m0 ⟨σ, H, I, w0⟩)
  rintro n s1 ⟨σ1, H1, I1, w1⟩
  refine wpAny_passesOwn hp (thn (hc pins s1 σ1 H1 _ I1 (turn n σ1 H1 w1)) fun b s2 ⟨H2, I2, q2⟩ => ?_)
  cases b with
  | true =>
    obtain ⟨N, hN, q2⟩ := q2
    rw [if_pos rfl]
    refine wpAny_passesOwn hp (thn (hb pins s2 σ1 H2 _ I2 q2) fun f s3 q3 => ?_)
    cases f with
    | next =>
      obtain ⟨σ3, H3, I3, n3⟩ := q3
      obtain ⟨m', hm, w3⟩ := hN σ3 H3 n3
      exact ⟨m', hm, σ3, H3, I3, w3⟩
    | cont =>
      obtain ⟨σ3, H3, I3, n3⟩ := q3
      obtain ⟨m', hm, w3⟩ := hN σ3 H3 n3
      exact ⟨m', hm, σ3, H3, I3, w3⟩
    | brk => exact q3
    | ret v => exact q3
  | false =>
    rw [if_neg Bool.false_ne_true]
    exact wpAny_execs_nil ⟨σ1, H2, I2, q2⟩
end

/-! ### what a loop or a comprehension walks -/
/-- at turn i: it yields x (the heap may grow), or it stops -/
structure It where
  go : Nat → Hp → Prop
  yld : Nat → Hp → V → Hp → Prop
  stop : Nat → Hp → Prop
/-- the iterator's own objects may turn: they are not the frame's, not pinned, younger than the entry (or a comprehension's own) -/
def FpOk (X : Cx) (pins : List (Addr × Obj)) (H : Hp) (b : Addr) : Prop :=
  H b = none ∧ b ≠ X.env.locals ∧ b ∉ X.fs ∧ (b ∈ X.ex ∨ X.s₀.heap.objs.size ≤ b) ∧ (∀ x c, X.env.cells.lookup x = some c → c ≠ b) ∧ ∀ p ∈ X.pn ++ pins, p.1 ≠ b
theorem Inv.fpOk {X : Cx} {pins : List (Addr × Obj)} {σ : St} {H H' : Hp} {s : Shared} {b : Addr} (I : Inv X pins σ H s) (hb : s.heap.objs.size ≤ b) (hn : H' b = none) : FpOk X pins H' b := by
  refine ⟨hn, Nat.ne_of_gt (Nat.lt_of_lt_of_le I.lt hb), I.nofs hb, .inr (Nat.le_trans I.sz hb), fun x c e z => ?_, fun p hp z => ?_⟩
  · obtain ⟨v, q⟩ := I.cell x c e
    exact absurd (Nat.lt_of_lt_of_le q.lt (by rw [z]; exact hb)) (Nat.lt_irrefl _)
  · exact absurd (Nat.lt_of_lt_of_le (Heap.lt_size (I.pin p hp).1) (by rw [z]; exact hb)) (Nat.lt_irrefl _)
structure Turn (P : Program) (w : World) (K : PySem.W.Frag) (tg : Expr) (J : It) (fp : List Addr) (it : Addr) (tn : Nat → Heap → Prop) : Prop where
  mem : it ∈ fp
  obj : ∀ i h, tn i h → ∀ b ∈ fp, ∃ o, h.get? b = some o ∧ ∀ v, o.data ≠ .cell v
  keep : ∀ i h h', tn i h → (∀ b ∈ fp, ∀ o, h.get? b = some o → h'.get? b = some o) → tn i h'
  item : ∀ (X : Cx), X.prog = P → X.w = w → X.K = K → X.calm = true → ∀ (i : Nat) (pins : List (Addr × Obj)) (s : Shared) (σ : St) (H : Hp) (E : Value → Shared → Prop), Inv X pins σ H s → (∀ b ∈ fp, FpOk X pins H b) → tn i s.heap → J.go i H →
    wpAny (model P w) X.A (pyNext (.ref it)) (fun r s1 => ∃ u, r = some u ∧
      wpAny (model P w) X.A (letOwnedTupleGo tg (.ref it) u) (fun _ s2 => ∃ x H', Inv X pins σ H' s2 ∧ RelV x u ∧ J.yld i H x H' ∧ tn (i + 1) s2.heap ∧ ∀ b ∈ fp, H' b = none) E s1) E s
  done : ∀ (X : Cx), X.prog = P → X.w = w → X.K = K → X.calm = true → ∀ (i : Nat) (pins : List (Addr × Obj)) (s : Shared) (σ : St) (H : Hp) (E : Value → Shared → Prop), Inv X pins σ H s → (∀ b ∈ fp, FpOk X pins H b) → tn i s.heap → J.stop i H →
    wpAny (model P w) X.A (pyNext (.ref it)) (fun r s1 => r = none ∧ Inv X pins σ H s1) E s
  self : ∀ (A : Around) (i : Nat) (s : Shared) (Q : Value → Shared → Prop) (E : Value → Shared → Prop), tn i s.heap → Q (.ref it) s → wpAny (model P w) A (pyIter (.ref it)) Q E s
abbrev TI := St → Hp → (It → Hp → Prop) → Prop
/-- an iterator has come -/
def PIE (X : Cx) (pins : List (Addr × Obj)) (σ : St) (tg : Expr) (R : It → Hp → Prop) (itv : Value) (s2 : Shared) : Prop :=
  ∃ (it : Addr) (fp : List Addr) (tn : Nat → Heap → Prop) (J : It) (H' : Hp), itv = .ref it ∧ Inv X pins σ H' s2 ∧ Turn X.prog X.w X.K tg J fp it tn ∧ tn 0 s2.heap ∧ (∀ b ∈ fp, FpOk X pins H' b) ∧ R J H'
def PI (X : Cx) (tg iter : Expr) (wi : TI) : Prop :=
  ∀ (pins : List (Addr × Obj)) (s : Shared) (σ : St) (H : Hp) (R : It → Hp → Prop), Inv X pins σ H s → wi σ H R →
    wpAny (model X.prog X.w) X.A (eval iter X.env) (fun v s1 => wpAny (model X.prog X.w) X.A (pyIter v) (PIE X pins σ tg R) X.xe s1) X.xe s

/-- the step ahead of the store is nothing for an iterator that keeps no tuple -/
theorem go_of {M : Model} {A : Around} {E : Value → Shared → Prop} {s : Shared} {tg : Expr} {it : Addr} {u : Value} {o : Obj} {n : String} {vs : Array Value} {Q : Unit → Shared → Prop} (ho : s.heap.get? it = some o) (hc : o.cls = .type n) (hd : o.data = .fields vs)
    (hn : ["enumerate", "zip", "dict_itemiterator", "dict_reverseitemiterator", "odict_iterator", "itertools.zip_longest", "itertools.pairwise"].contains n = false) (hQ : Q () s) : wpAny M A (letOwnedTupleGo tg (.ref it) u) Q E s := by
  unfold letOwnedTupleGo
  cases tg <;> first
    | exact wpAny_pure hQ
    | (cases u <;> first
        | exact wpAny_pure hQ
        | (refine wpAny_bind (wpAny_load ho ?_)
           rw [hc, hd]
           show wpAny M A (if (["enumerate", "zip", "dict_itemiterator", "dict_reverseitemiterator", "odict_iterator", "itertools.zip_longest", "itertools.pairwise"].contains n && vs[0]? == some (rawInt _)) = true then _ else _) Q E s
           rw [if_neg (by intro h; rw [hn, Bool.false_and] at h; cases h)]
           exact wpAny_pure hQ))

/-- the list at a, as it stands at each turn (a loop may append to it) -/
def Itl (K : PySem.W.Frag) (a : Addr) : It :=
  ⟨fun i H => ∃ xs x, SqL K H a xs ∧ xs[i]? = some x, fun i H x H' => H' = H ∧ ∀ xs, SqL K H a xs → xs[i]? = some x, fun i H => ∃ xs, SqL K H a xs ∧ xs.length ≤ i⟩
def Itt (K : PySem.W.Frag) (a : Addr) : It :=
  ⟨fun i H => ∃ xs x, SqT K H a xs ∧ xs[i]? = some x, fun i H x H' => H' = H ∧ ∀ xs, SqT K H a xs → xs[i]? = some x, fun i H => ∃ xs, SqT K H a xs ∧ xs.length ≤ i⟩
/-- lo, lo + 1, .. (n of them) -/
def Itr (lo : Int) (n : Nat) : It := ⟨fun i _ => i < n, fun i H x H' => H' = H ∧ x = .int (lo + i), fun i _ => n ≤ i⟩
theorem turn_list {P : Program} {w : World} {K : PySem.W.Frag} {tg : Expr} (a it : Addr) : Turn P w K tg (Itl K a) [it] it (fun i h => h.IsListIter it a i) where
  mem := by simp
  obj := fun i h st b hb => by
    have e : b = it := by simpa using hb
    subst e
    obtain ⟨o, e, c, d⟩ := st
    exact ⟨o, e, fun v z => by rw [d] at z; cases z⟩
  keep := fun i h h' st k => st.at fun o e => k it (by simp) o e
  item := by
    intro X hP hw hK hc i pins s σ H E I hf st hg
    subst hP hw hK
    obtain ⟨xs, x, hq, hx⟩ := hg
    obtain ⟨its, rv, p, hz⟩ := I.list hq
    obtain ⟨u, hu, ru⟩ := rv.get hx
    obtain ⟨f0, f1, f2, f3, f4, f5⟩ := hf it (by simp)
    refine wpAny_pyNext_list_item st p.isList (x := u) (by simpa using hu) fun h' st' sb => ?_
    have I1 : Inv X pins σ H { s with heap := h' } := I.turned (t' := s.toks) (fun b o hb e => (sb.2 b hb).trans e) f0 f1 f3 f4 f5
    obtain ⟨o, e, c, d⟩ := id st'
    exact ⟨u, rfl, go_of (s := { s with heap := h' }) e c d (by decide) ⟨x, H, I1, ru, ⟨rfl, fun ys hy => by rw [I.list_inj hy hq]; exact hx⟩, st', fun b hb => (hf b hb).1⟩⟩
  done := by
    intro X hP hw hK hc i pins s σ H E I hf st hg
    subst hP hw hK
    obtain ⟨xs, hq, hx⟩ := hg
    obtain ⟨its, rv, p, hz⟩ := I.list hq
    obtain ⟨f0, f1, f2, f3, f4, f5⟩ := hf it (by simp)
    have hl := rv.length
    exact wpAny_pyNext_list_end (I.ok.hd hc) st p.isList (by simp; omega) fun h' eb => ⟨rfl, I.turned (t' := s.toks) (fun b o hb e => eb b o hb e) f0 f1 f3 f4 f5⟩
  self := fun _ _ _ _ _ st h => wpAny_pyIter_listiter st h
theorem turn_tuple {P : Program} {w : World} {K : PySem.W.Frag} {tg : Expr} (a it : Addr) : Turn P w K tg (Itt K a) [it] it (fun i h => h.IsTupleIter it a i) where
  mem := by simp
  obj := fun i h st b hb => by
    have e : b = it := by simpa using hb
    subst e
    obtain ⟨o, e, c, d⟩ := st
    exact ⟨o, e, fun v z => by rw [d] at z; cases z⟩
  keep := fun i h h' st k => st.at fun o e => k it (by simp) o e
  item := by
    intro X hP hw hK hc i pins s σ H E I hf st hg
    subst hP hw hK
    obtain ⟨xs, x, hq, hx⟩ := hg
    obtain ⟨its, rv, p, hz⟩ := I.tuple hq
    obtain ⟨u, hu, ru⟩ := rv.get hx
    obtain ⟨f0, f1, f2, f3, f4, f5⟩ := hf it (by simp)
    refine wpAny_pyNext_tuple_item st (show s.heap.IsTuple a its.toArray from p) (x := u) (by simpa using hu) fun h' st' sb => ?_
    have I1 : Inv X pins σ H { s with heap := h' } := I.turned (t' := s.toks) (fun b o hb e => (sb.2 b hb).trans e) f0 f1 f3 f4 f5
    obtain ⟨o, e, c, d⟩ := id st'
    exact ⟨u, rfl, go_of (s := { s with heap := h' }) e c d (by decide) ⟨x, H, I1, ru, ⟨rfl, fun ys hy => by rw [I.tuple_inj hy hq]; exact hx⟩, st', fun b hb => (hf b hb).1⟩⟩
  done := by
    intro X hP hw hK hc i pins s σ H E I hf st hg
    subst hP hw hK
    obtain ⟨xs, hq, hx⟩ := hg
    obtain ⟨its, rv, p, hz⟩ := I.tuple hq
    obtain ⟨f0, f1, f2, f3, f4, f5⟩ := hf it (by simp)
    have hl := rv.length
    exact wpAny_pyNext_tuple_end (I.ok.hd hc) st (show s.heap.IsTuple a its.toArray from p) (by simp; omega) fun h' eb => ⟨rfl, I.turned (t' := s.toks) (fun b o hb e => eb b o hb e) f0 f1 f3 f4 f5⟩
  self := fun _ _ _ _ _ st h => wpAny_pyIter_tupleiter st h
theorem turn_range {P : Program} {w : World} {K : PySem.W.Frag} {tg : Expr} (it : Addr) (lo : Int) (n : Nat) : Turn P w K tg (Itr lo n) [it] it (fun i h => IsRangeIter h it (lo + (i : Nat) * 1) ((n : Int) - (i : Nat)) 1) where
  mem := by simp
  obj := fun i h st b hb => by
    have e : b = it := by simpa using hb
    subst e
    exact ⟨_, st, fun v z => by
      have z' : Data.fields _ = Data.cell v := z
      cases z'⟩
  keep := fun i h h' st k => k it (by simp) _ st
  item := by
    intro X hP hw hK hc i pins s σ H E I hf st hg
    subst hP hw hK
    obtain ⟨f0, f1, f2, f3, f4, f5⟩ := hf it (by simp)
    have W := Walks.range (prog := X.prog) (w := X.w) (I.ok.hd hc) it lo 1 n
    refine W.item i s _ _ hg st fun v h' tk hv st' kk => ?_
    obtain ⟨t, rfl⟩ := hv
    have I1 : Inv X pins σ H { s with heap := h', toks := tk } := I.turned (fun b o hb e => kk b o (by simpa using hb) e) f0 f1 f3 f4 f5
    refine ⟨_, rfl, go_of (s := { s with heap := h', toks := tk }) (n := "range_iterator") st' rfl rfl (by decide) ⟨.int (lo + i), H, I1, ⟨t, ?_⟩, ⟨rfl, rfl⟩, st', fun b hb => (hf b hb).1⟩⟩
    rw [Int.mul_one]
  done := by
    intro X hP hw hK hc i pins s σ H E I hf st hg
    subst hP hw hK
    obtain ⟨f0, f1, f2, f3, f4, f5⟩ := hf it (by simp)
    exact wpAny_pyNext_range_end (I.ok.hd hc) st (by have : n ≤ i := hg; omega) fun h' eb => ⟨rfl, I.turned (t' := s.toks) (fun b o hb e => eb b o hb e) f0 f1 f3 f4 f5⟩
  self := fun _ _ _ _ _ st h => wpAny_pyIter_rangeiter st h
end L2

namespace L2
open PySem PySem.Spec PyProof.Rows
section
variable {X : Cx} {tg : Expr}
def iList (K : PySem.W.Frag) (tl : TE) : TI := fun σ H R => tl σ H fun x H1 => ∃ a, x = .ref a ∧ (∃ xs, SqL K H1 a xs) ∧ R (Itl K a) H1
def iTup (K : PySem.W.Frag) (tl : TE) : TI := fun σ H R => tl σ H fun x H1 => ∃ a, x = .ref a ∧ (∃ xs, SqT K H1 a xs) ∧ R (Itt K a) H1
theorem pi_list {l : Expr} {tl : TE} (hl : PE X l tl) : PI X tg l (iList X.K tl) := by
  intro pins s σ H R I h
  refine thn (hl pins s σ H _ I h) fun v s1 ⟨x, H1, I1, r1, q1⟩ => ?_
  obtain ⟨a, e, ⟨xs, hq⟩, q⟩ := q1
  subst e
  cases r1
  obtain ⟨its, rv, p, hz⟩ := I1.list hq
  refine wpAny_pyIter_list p.isList ?_
  refine ⟨s1.heap.objs.size, [s1.heap.objs.size], _, _, H1, rfl, I1.kept (t' := s1.toks) fun b o e => Heap.get?_push_of_some _ e, turn_list a _, ⟨_, Heap.get?_push_size _ rfl, rfl, rfl⟩, fun b hb => ?_, q⟩
  have e : b = s1.heap.objs.size := by simpa using hb
  subst e
  exact I1.fpOk (Nat.le_refl _) (I1.hok.fresh (Nat.le_refl _))
theorem pi_tup {l : Expr} {tl : TE} (hl : PE X l tl) : PI X tg l (iTup X.K tl) := by
  intro pins s σ H R I h
  refine thn (hl pins s σ H _ I h) fun v s1 ⟨x, H1, I1, r1, q1⟩ => ?_
  obtain ⟨a, e, ⟨xs, hq⟩, q⟩ := q1
  subst e
  cases r1
  obtain ⟨its, rv, p, hz⟩ := I1.tuple hq
  refine wpAny_pyIter_tuple (show s1.heap.IsTuple a its.toArray from p) ?_
  refine ⟨s1.heap.objs.size, [s1.heap.objs.size], _, _, H1, rfl, I1.kept (t' := s1.toks) fun b o e => Heap.get?_push_of_some _ e, turn_tuple a _, ⟨_, Heap.get?_push_size _ rfl, rfl, rfl⟩, fun b hb => ?_, q⟩
  have e : b = s1.heap.objs.size := by simpa using hb
  subst e
  exact I1.fpOk (Nat.le_refl _) (I1.hok.fresh (Nat.le_refl _))
/-- a range object just made, walked -/
theorem range_it {pins : List (Addr × Obj)} {σ : St} {H : Hp} {s : Shared} {R : It → Hp → Prop} {E : Value → Shared → Prop} {lo hi : Int} {t u v : Tok} {tk : Nat} (I : Inv X pins σ H s) (h1 : -(2 ^ 62) ≤ lo) (h2 : lo < 2 ^ 62) (h3 : -(2 ^ 62) ≤ hi) (h4 : hi < 2 ^ 62)
    (q : R (Itr lo (hi - lo).toNat) H) : wpAny (model X.prog X.w) X.A (pyIter (.ref s.heap.objs.size)) (PIE X pins σ tg R) E { s with heap := s.heap.push { cls := .type "range", data := .fields #[.int lo t, .int hi u, .int 1 v] }, toks := tk } := by
  refine wpAny_pyIter_range (IsRange.new ..) (small_one h1 h2 h3 h4) ?_
  have I1 : Inv X pins σ H { s with heap := s.heap.push { cls := .type "range", data := .fields #[.int lo t, .int hi u, .int 1 v] }, toks := tk } := I.kept fun b o e => Heap.get?_push_of_some _ e
  refine ⟨(s.heap.push { cls := .type "range", data := .fields #[.int lo t, .int hi u, .int 1 v] }).objs.size, [(s.heap.push { cls := .type "range", data := .fields #[.int lo t, .int hi u, .int 1 v] }).objs.size], _, _, H, rfl,
    I1.kept (t' := tk) fun b o e => Heap.get?_push_of_some _ e, turn_range _ lo (hi - lo).toNat, ?_, fun b hb => ?_, q⟩
  · have e1 : lo + ((0 : Nat) : Int) * 1 = lo := by simp
    have e2 : (((hi - lo).toNat : Nat) : Int) - ((0 : Nat) : Int) = Builtin.Range.rangeSize lo hi 1 := by rw [rangeSize_one]; split <;> omega
    show IsRangeIter _ _ (lo + ((0 : Nat) : Int) * 1) ((((hi - lo).toNat : Nat) : Int) - ((0 : Nat) : Int)) 1
    rw [e1, e2]
    exact Heap.get?_push_size _ rfl
  · have e : b = (s.heap.push { cls := .type "range", data := .fields #[.int lo t, .int hi u, .int 1 v] }).objs.size := by simpa using hb
    subst e
    exact I1.fpOk (Nat.le_refl _) (I1.hok.fresh (Nat.le_refl _))
def iRng1 (ta : TA) : TI := fun σ H R => ta σ H fun vs H1 => ∃ j : Int, vs = [.int j] ∧ -(2 ^ 62) ≤ j ∧ j < 2 ^ 62 ∧ R (Itr 0 j.toNat) H1
def iRng2 (ta : TA) : TI := fun σ H R => ta σ H fun vs H1 => ∃ i j : Int, vs = [.int i, .int j] ∧ (-(2 ^ 62) ≤ i ∧ i < 2 ^ 62 ∧ -(2 ^ 62) ≤ j ∧ j < 2 ^ 62) ∧ R (Itr i (j - i).toNat) H1
theorem pi_range1 {a : Expr} {ta : TA} {p pos : Pos} (hg : Gl X "range") (hm : X.mg "range" = none) (ha : PA X [a] ta) (hs : starEach [a] X.env = [(false, eval a X.env)] := by rfl) : PI X tg (.Call (.Name "range" p) [a] [] pos) (iRng1 ta) := by
  intro pins s σ H R I h
  refine Call_ (ld_blt I hg hm boot_range (PyProof.Rows.callWith_type1 (thn (ha pos pins s σ H _ I h) fun us s1 ⟨vs, H1, I1, r1, q1⟩ => ?_) hs rfl))
  obtain ⟨j, e, q1, q2, q⟩ := q1
  subst e
  cases r1 with
  | cons r rr =>
    cases rr
    obtain ⟨t, rfl⟩ := r
    exact call_range_1 (range_it I1 (by omega) (by omega) q1 q2 (by simpa using q))
theorem pi_range2 {a b : Expr} {ta : TA} {p pos : Pos} (hg : Gl X "range") (hm : X.mg "range" = none) (ha : PA X [a, b] ta) (hs : starEach [a, b] X.env = [(false, eval a X.env), (false, eval b X.env)] := by rfl) (hs2 : starEach [b] X.env = [(false, eval b X.env)] := by rfl) :
    PI X tg (.Call (.Name "range" p) [a, b] [] pos) (iRng2 ta) := by
  intro pins s σ H R I h
  refine Call_ (ld_blt I hg hm boot_range (PyProof.Rows.callWith_type1 (thn (ha pos pins s σ H _ I h) fun us s1 ⟨vs, H1, I1, r1, q1⟩ => ?_) (by rw [hs, hs2]) (by rw [hs2]; rfl)))
  obtain ⟨i, j, e, ⟨q1, q2, q3, q4⟩, q⟩ := q1
  subst e
  cases r1 with
  | cons r rr =>
    cases rr with
    | cons r' rr =>
      cases rr
      obtain ⟨t, rfl⟩ := r
      obtain ⟨t', rfl⟩ := r'
      exact call_range_2 (range_it I1 q1 q2 q3 q4 q)

/-! ### for -/
/-- W: the invariant by the turn and a measure; N: what the body is to reach -/
def tFor (wi : TI) (g : TG) (tb : TS) : TS := fun D σ H => wi σ H fun J H1 => ∃ W : Nat → Nat → St → Hp → Prop, (∃ m, W 0 m σ H1) ∧ ∀ i m σ H, W i m σ H →
  (J.stop i H ∧ D.nx σ H) ∨ (J.go i H ∧ ∃ N : St → Hp → Prop, (∀ σ' H', N σ' H' → ∃ m', m' < m ∧ W (i + 1) m' σ' H') ∧ ∀ x H', J.yld i H x H' → g x σ H' fun σ2 H2 => tb { D with nx := N, ct := N, bk := D.nx } σ2 H2)
/-- the records at fp as they stand -/
def pinsAt (fp : List Addr) (h : Heap) : List (Addr × Obj) := fp.filterMap fun b => (h.get? b).map fun o => (b, o)
theorem mem_pinsAt {fp : List Addr} {h : Heap} {b : Addr} {o : Obj} (hb : b ∈ fp) (e : h.get? b = some o) : (b, o) ∈ pinsAt fp h := List.mem_filterMap.mpr ⟨b, hb, by rw [e]; rfl⟩
theorem of_pinsAt {fp : List Addr} {h : Heap} {p : Addr × Obj} (hp : p ∈ pinsAt fp h) : p.1 ∈ fp ∧ h.get? p.1 = some p.2 := by
  obtain ⟨b, hb, e⟩ := List.mem_filterMap.mp hp
  cases q : h.get? b with
  | none => rw [q] at e; cases e
  | some o =>
    rw [q] at e
    have e' : (b, o) = p := Option.some.inj e
    subst e'
    exact ⟨hb, q⟩
theorem Inv.pinned {pins : List (Addr × Obj)} {σ : St} {H : Hp} {s : Shared} {fp : List Addr} (I : Inv X pins σ H s) (hf : ∀ b ∈ fp, FpOk X pins H b) (ho : ∀ b ∈ fp, ∃ o, s.heap.get? b = some o ∧ ∀ v, o.data ≠ .cell v) : Inv X (pins ++ pinsAt fp s.heap) σ H s :=
  I.pins_of fun p hp => (List.mem_append.mp hp).elim (fun z => I.pin p (List.mem_append_right _ z)) fun z => by
    obtain ⟨hb, e⟩ := of_pinsAt z
    obtain ⟨f0, f1, f2, _⟩ := hf p.1 hb
    obtain ⟨o, e', d⟩ := ho p.1 hb
    rw [e] at e'; cases e'
    exact ⟨e, f0, f1, f2, d⟩
theorem Inv.unpinned {pins pl : List (Addr × Obj)} {σ : St} {H : Hp} {s : Shared} (I : Inv X (pins ++ pl) σ H s) : Inv X pins σ H s := I.pins_of fun p hp => I.pin p (List.mem_append_right _ (List.mem_append_left _ hp))
theorem ps_for {iter : Expr} {body : List Stmt} {wi : TI} {g : TG} {tb : TS} {pos : Pos} (hp : PassesOwn (model X.prog X.w) X.A X.env X.xe) (hc : X.calm = true) (hi : PI X tg iter wi) (hg : PG X tg g) (hb : PSs X body tb)
    (hs : ∀ x, foldedSetIterable iter X.env x = pure x := by intro _; rfl) : PS X (.For tg iter body [] pos) (tFor wi g tb) := by
  intro pins s σ H D I h
  refine wpAny_For (thn (hi pins s σ H _ I h) fun v s1 h1 => thn h1 fun itv s2 h2 => ?_) hs
  obtain ⟨it, fp, tn, J, H2, e, I2, T, st2, f2, W, ⟨m0, w0⟩, turn⟩ := h2
  subst e
  -- what stays true of the iterator's objects through the loop
  have stat : ∀ {H' : Hp}, (∀ b ∈ fp, H' b = none) → ∀ b ∈ fp, FpOk X pins H' b := fun hn b hb => ⟨hn b hb, (f2 b hb).2⟩
  refine codeAny_forLoop_any (fun n s' => ∃ i σ' H', Inv X pins σ' H' s' ∧ tn i s'.heap ∧ (∀ b ∈ fp, H' b = none) ∧ W i n σ' H') ?_ m0 ⟨0, σ, H2, I2, st2, fun b hb => (f2 b hb).1, w0⟩
  rintro n s3 ⟨i, σ3, H3, I3, st3, fr3, w3⟩
  rcases turn i n σ3 H3 w3 with ⟨stop, qn⟩ | ⟨go, N, hN, step⟩
  · refine wpAny_passesOwn hp (thn (T.done X rfl rfl rfl hc i pins s3 σ3 H3 X.xe I3 (stat fr3) st3 stop) fun r s4 ⟨hr, I4⟩ => ?_)
    subst hr
    exact wpAny_execs_nil ⟨σ3, H3, I4, qn⟩
  · refine wpAny_passesOwn hp (thn (T.item X rfl rfl rfl hc i pins s3 σ3 H3 X.xe I3 (stat fr3) st3 go) fun r s4 ⟨u, hr, h4⟩ => ?_)
    subst hr
    refine wpAny_passesOwn hp (thn h4 fun _ s5 ⟨x, H5, I5, r5, y5, st5, fr5⟩ => ?_)
    have I5' := I5.pinned (stat fr5) (T.obj _ _ st5)
    refine wpAny_passesOwn hp (thn (hg _ s5 σ3 H5 x u _ I5' r5 (step x H5 y5)) fun _ s6 ⟨σ6, H6, I6, q6⟩ => ?_)
    refine wpAny_passesOwn hp (thn (hb _ s6 σ6 H6 _ I6 q6) fun f s7 q7 => ?_)
    have again : ∀ {σ7 : St} {H7 : Hp}, Inv X (pins ++ pinsAt fp s5.heap) σ7 H7 s7 → N σ7 H7 → ∃ m, m < n ∧ ∃ i σ' H', Inv X pins σ' H' s7 ∧ tn i s7.heap ∧ (∀ b ∈ fp, H' b = none) ∧ W i m σ' H' := fun {σ7 H7} I7 n7 => by
      obtain ⟨m', hm, w7⟩ := hN σ7 H7 n7
      refine ⟨m', hm, i + 1, σ7, H7, I7.unpinned, T.keep _ _ _ st5 fun b hb o e => (I7.pin (b, o) (List.mem_append_right _ (List.mem_append_right _ (mem_pinsAt hb e)))).1, fun b hb => ?_, w7⟩
      obtain ⟨o, e, d⟩ := T.obj _ _ st5 b hb
      exact (I7.pin (b, o) (List.mem_append_right _ (List.mem_append_right _ (mem_pinsAt hb e)))).2.1
    cases f with
    | next => obtain ⟨σ7, H7, I7, n7⟩ := q7; exact again I7 n7
    | cont => obtain ⟨σ7, H7, I7, n7⟩ := q7; exact again I7 n7
    | brk => obtain ⟨σ7, H7, I7, q7⟩ := q7; exact ⟨σ7, H7, I7.unpinned, q7⟩
    | ret v => obtain ⟨x7, σ7, H7, I7, r7, q7⟩ := q7; exact ⟨x7, σ7, H7, I7.unpinned, r7, q7⟩
end

/-! ### the forms one uses -/
/-- over a list that the body leaves as it is -/
theorem for_list {K : PySem.W.Frag} {a : Addr} {xs : List V} {g : TG} {tb : TS} {D : Ends} {σ : St} {H : Hp} (Pv : Nat → St → Hp → Prop) (h0 : Pv 0 σ H) (hl : ∀ i σ H, i ≤ xs.length → Pv i σ H → SqL K H a xs)
    (hs : ∀ i x σ H, xs[i]? = some x → Pv i σ H → g x σ H fun σ2 H2 => tb { D with nx := Pv (i + 1), ct := Pv (i + 1), bk := D.nx } σ2 H2) (hd : ∀ σ H, Pv xs.length σ H → D.nx σ H) :
    ∃ W : Nat → Nat → St → Hp → Prop, (∃ m, W 0 m σ H) ∧ ∀ i m σ H, W i m σ H →
      ((Itl K a).stop i H ∧ D.nx σ H) ∨ ((Itl K a).go i H ∧ ∃ N : St → Hp → Prop, (∀ σ' H', N σ' H' → ∃ m', m' < m ∧ W (i + 1) m' σ' H') ∧ ∀ x H', (Itl K a).yld i H x H' → g x σ H' fun σ2 H2 => tb { D with nx := N, ct := N, bk := D.nx } σ2 H2) := by
  refine ⟨fun i m σ H => m = xs.length - i ∧ i ≤ xs.length ∧ Pv i σ H, ⟨xs.length, by simp, Nat.zero_le _, h0⟩, ?_⟩
  rintro i m σ H ⟨rfl, hi, p⟩
  have q := hl i σ H hi p
  by_cases hlt : i < xs.length
  · refine .inr ⟨⟨xs, xs[i], q, by simp [hlt]⟩, Pv (i + 1), fun σ' H' p' => ⟨xs.length - (i + 1), by omega, rfl, hlt, p'⟩, fun x H' y => ?_⟩
    obtain ⟨e, y⟩ := y
    subst e
    exact hs i x σ _ (y xs q) p
  · have e : i = xs.length := by omega
    subst e
    exact .inl ⟨⟨xs, q, Nat.le_refl _⟩, hd σ H p⟩
theorem for_tup {K : PySem.W.Frag} {a : Addr} {xs : List V} {g : TG} {tb : TS} {D : Ends} {σ : St} {H : Hp} (Pv : Nat → St → Hp → Prop) (h0 : Pv 0 σ H) (hl : ∀ i σ H, i ≤ xs.length → Pv i σ H → SqT K H a xs)
    (hs : ∀ i x σ H, xs[i]? = some x → Pv i σ H → g x σ H fun σ2 H2 => tb { D with nx := Pv (i + 1), ct := Pv (i + 1), bk := D.nx } σ2 H2) (hd : ∀ σ H, Pv xs.length σ H → D.nx σ H) :
    ∃ W : Nat → Nat → St → Hp → Prop, (∃ m, W 0 m σ H) ∧ ∀ i m σ H, W i m σ H →
      ((Itt K a).stop i H ∧ D.nx σ H) ∨ ((Itt K a).go i H ∧ ∃ N : St → Hp → Prop, (∀ σ' H', N σ' H' → ∃ m', m' < m ∧ W (i + 1) m' σ' H') ∧ ∀ x H', (Itt K a).yld i H x H' → g x σ H' fun σ2 H2 => tb { D with nx := N, ct := N, bk := D.nx } σ2 H2) := by
  refine ⟨fun i m σ H => m = xs.length - i ∧ i ≤ xs.length ∧ Pv i σ H, ⟨xs.length, by simp, Nat.zero_le _, h0⟩, ?_⟩
  rintro i m σ H ⟨rfl, hi, p⟩
  have q := hl i σ H hi p
  by_cases hlt : i < xs.length
  · refine .inr ⟨⟨xs, xs[i], q, by simp [hlt]⟩, Pv (i + 1), fun σ' H' p' => ⟨xs.length - (i + 1), by omega, rfl, hlt, p'⟩, fun x H' y => ?_⟩
    obtain ⟨e, y⟩ := y
    subst e
    exact hs i x σ _ (y xs q) p
  · have e : i = xs.length := by omega
    subst e
    exact .inl ⟨⟨xs, q, Nat.le_refl _⟩, hd σ H p⟩
theorem for_range {lo : Int} {n : Nat} {g : TG} {tb : TS} {D : Ends} {σ : St} {H : Hp} (Pv : Nat → St → Hp → Prop) (h0 : Pv 0 σ H)
    (hs : ∀ i σ H, i < n → Pv i σ H → g (.int (lo + i)) σ H fun σ2 H2 => tb { D with nx := Pv (i + 1), ct := Pv (i + 1), bk := D.nx } σ2 H2) (hd : ∀ σ H, Pv n σ H → D.nx σ H) :
    ∃ W : Nat → Nat → St → Hp → Prop, (∃ m, W 0 m σ H) ∧ ∀ i m σ H, W i m σ H →
      ((Itr lo n).stop i H ∧ D.nx σ H) ∨ ((Itr lo n).go i H ∧ ∃ N : St → Hp → Prop, (∀ σ' H', N σ' H' → ∃ m', m' < m ∧ W (i + 1) m' σ' H') ∧ ∀ x H', (Itr lo n).yld i H x H' → g x σ H' fun σ2 H2 => tb { D with nx := N, ct := N, bk := D.nx } σ2 H2) := by
  refine ⟨fun i m σ H => m = n - i ∧ i ≤ n ∧ Pv i σ H, ⟨n, by simp, Nat.zero_le _, h0⟩, ?_⟩
  rintro i m σ H ⟨rfl, hi, p⟩
  by_cases hlt : i < n
  · refine .inr ⟨hlt, Pv (i + 1), fun σ' H' p' => ⟨n - (i + 1), by omega, rfl, hlt, p'⟩, fun x H' y => ?_⟩
    obtain ⟨e, y⟩ := y
    subst e y
    exact hs i σ _ hlt p
  · have e : i = n := by omega
    subst e
    exact .inl ⟨Nat.le_refl _, hd σ H p⟩
/-- while, by a word and a measure of the state -/
theorem while_by {c : TT} {tb : TS} {D : Ends} {σ : St} {H : Hp} (Pv : St → Hp → Prop) (μ : St → Hp → Nat) (h0 : Pv σ H)
    (hs : ∀ σ H, Pv σ H → c σ H fun b H1 => if b = true then tb { D with nx := fun σ' H' => Pv σ' H' ∧ μ σ' H' < μ σ H, ct := fun σ' H' => Pv σ' H' ∧ μ σ' H' < μ σ H, bk := D.nx } σ H1 else D.nx σ H1)
    (mono : ∀ σ H Q Q', (∀ b H1, Q b H1 → Q' b H1) → c σ H Q → c σ H Q') : tWhile c tb D σ H := by
  refine ⟨fun m σ H => m = μ σ H ∧ Pv σ H, ⟨_, rfl, h0⟩, ?_⟩
  rintro m σ H ⟨rfl, p⟩
  refine mono σ H _ _ (fun b H1 q => ?_) (hs σ H p)
  cases b with
  | true => exact ⟨_, fun σ' H' ⟨p', l⟩ => ⟨_, l, rfl, p'⟩, q⟩
  | false => exact q
end L2

namespace L2
open PySem PySem.Spec PyProof.Rows

abbrev R2 := V → V → Hp → VK → Prop
/-- a two-place operation on values: f is binaryOp op, inplaceOp op or compareOp op -/
def OpR (X : Cx) (f : Value → Value → Sem Value) (r : R2) : Prop :=
  ∀ (pins : List (Addr × Obj)) (s : Shared) (σ : St) (H : Hp) (x y : V) (v u : Value) (Q : VK), Inv X pins σ H s → RelV x v → RelV y u → r x y H Q →
    wpAny (model X.prog X.w) X.A (f v u) (EP X pins σ Q) X.xe s
/-- a one-place operation -/
def UnR (X : Cx) (f : Value → Sem Value) (r : V → Hp → VK → Prop) : Prop :=
  ∀ (pins : List (Addr × Obj)) (s : Shared) (σ : St) (H : Hp) (x : V) (v : Value) (Q : VK), Inv X pins σ H s → RelV x v → r x H Q →
    wpAny (model X.prog X.w) X.A (f v) (EP X pins σ Q) X.xe s
/-- a call of a value that is known (a builtin, a type) with values -/
def CallR (X : Cx) (f : Value) (r : List V → Hp → VK → Prop) : Prop :=
  ∀ (pins : List (Addr × Obj)) (s : Shared) (σ : St) (H : Hp) (xs : List V) (us : List Value) (Q : VK), Inv X pins σ H s → Vals xs us → r xs H Q →
    wpAny (model X.prog X.w) X.A (call f us) (EP X pins σ Q) X.xe s
/-- a value's truth -/
def TruR (X : Cx) (r : V → Hp → (Bool → Hp → Prop) → Prop) : Prop :=
  ∀ (pins : List (Addr × Obj)) (s : Shared) (σ : St) (H : Hp) (x : V) (v : Value) (Q : Bool → Hp → Prop), Inv X pins σ H s → RelV x v → r x H Q →
    wpAny (model X.prog X.w) X.A (truthy v) (TP X pins σ Q) X.xe s

def tOp (r : R2) (ta tb : TE) : TE := fun σ H Q => ta σ H fun x H1 => tb σ H1 fun y H2 => r x y H2 Q
def tUn (r : V → Hp → VK → Prop) (ta : TE) : TE := fun σ H Q => ta σ H fun x H1 => r x H1 Q
/-- ints in, under C, and a value out -/
def rI (C : Int → Int → Prop) (g : Int → Int → V) : R2 := fun x y H Q => ∃ i j, x = .int i ∧ y = .int j ∧ C i j ∧ Q (g i j) H
def rI0 (g : Int → Int → V) : R2 := fun x y H Q => ∃ i j, x = .int i ∧ y = .int j ∧ Q (g i j) H
def rU (g : Int → V) : V → Hp → VK → Prop := fun x H Q => ∃ i, x = .int i ∧ Q (g i) H

section
variable {X : Cx} {a b c : Expr} {ta tb tc : TE} {pos : Pos}

theorem binT (ha : PE X a ta) (hb : PE X b tb) {pins : List (Addr × Obj)} {s : Shared} {σ : St} {H : Hp} {R : V → V → Hp → Prop} (I : Inv X pins σ H s)
    (h : ta σ H fun x H1 => tb σ H1 fun y H2 => R x y H2) {Q : Value → Shared → Prop} {f : Value → Value → Sem Value}
    (hf : ∀ v u s2 x y H2, Inv X pins σ H2 s2 → RelV x v → RelV y u → R x y H2 → wpAny (model X.prog X.w) X.A (f v u) Q X.xe s2) :
    wpAny (model X.prog X.w) X.A (eval a X.env) (fun v s₁ => wpAny (model X.prog X.w) X.A (eval b X.env) (fun u s₂ => wpAny (model X.prog X.w) X.A (f v u) Q X.xe s₂) X.xe s₁) X.xe s := by
  refine thn (ha pins s σ H _ I h) fun v s1 ⟨x, H1, I1, r1, q1⟩ => ?_
  refine thn (hb pins s1 σ H1 _ I1 q1) fun u s2 ⟨y, H2, I2, r2, q2⟩ => ?_
  exact hf v u s2 x y H2 I2 r1 r2 q2

theorem pe_op {op : Operator} {r : R2} (ho : OpR X (binaryOp op) r) (ha : PE X a ta) (hb : PE X b tb) : PE X (.BinOp a op b pos) (tOp r ta tb) := by
  intro pins s σ H Q I h
  exact wpAny_BinOp (binT ha hb I h fun v u s2 x y H2 I2 rx ry q => ho pins s2 σ H2 x y v u Q I2 rx ry q)
theorem pe_un {op : UnaryOp} {r : V → Hp → VK → Prop} (ho : UnR X (unaryOp op) r) (ha : PE X a ta) : PE X (.UnaryOp op a pos) (tUn r ta) := by
  intro pins s σ H Q I h
  exact UnaryOp_ (thn (ha pins s σ H _ I h) fun v s1 ⟨x, H1, I1, r1, q1⟩ => ho pins s1 σ H1 x v Q I1 r1 q1)
/-- a op= e at a name: the name's slot i -/
theorem augR {op : Operator} {r : R2} (ho : OpR X (inplaceOp op) r) {pins : List (Addr × Obj)} {s : Shared} {σ : St} {H : Hp} {x y : V} {v u : Value} {Q : VK} (I : Inv X pins σ H s)
    (rx : RelV x v) (ry : RelV y u) (q : r x y H Q) : wpAny (model X.prog X.w) X.A (inplaceOp op v u) (EP X pins σ Q) X.xe s := ho pins s σ H x y v u Q I rx ry q

/-! ### ints -/
theorem opI {f : Value → Value → Sem Value} {C : Int → Int → Prop} {g : Int → Int → Int}
    (rule : ∀ (i j : Int) (t u : Tok) (s : Shared) (Q : Value → Shared → Prop) (E : Value → Shared → Prop), C i j → Q (.int (g i j) s.toks) { s with toks := s.toks + 1 } → wpAny (model X.prog X.w) X.A (f (.int i t) (.int j u)) Q E s) :
    OpR X f (rI C fun i j => .int (g i j)) := by
  intro pins s σ H x y v u Q I rx ry h
  obtain ⟨i, j, rfl, rfl, hc, q⟩ := h
  obtain ⟨t, rfl⟩ := rx
  obtain ⟨t', rfl⟩ := ry
  exact rule i j t t' s _ _ hc ⟨.int (g i j), H, I.tok _, ⟨_, rfl⟩, q⟩
theorem opI0 {f : Value → Value → Sem Value} {g : Int → Int → Int}
    (rule : ∀ (i j : Int) (t u : Tok) (s : Shared) (Q : Value → Shared → Prop) (E : Value → Shared → Prop), Q (.int (g i j) s.toks) { s with toks := s.toks + 1 } → wpAny (model X.prog X.w) X.A (f (.int i t) (.int j u)) Q E s) :
    OpR X f (rI0 fun i j => .int (g i j)) := by
  intro pins s σ H x y v u Q I rx ry h
  obtain ⟨i, j, rfl, rfl, q⟩ := h
  obtain ⟨t, rfl⟩ := rx
  obtain ⟨t', rfl⟩ := ry
  exact rule i j t t' s _ _ ⟨.int (g i j), H, I.tok _, ⟨_, rfl⟩, q⟩
theorem opB0 {f : Value → Value → Sem Value} {g : Int → Int → Bool}
    (rule : ∀ (i j : Int) (t u : Tok) (s : Shared) (Q : Value → Shared → Prop) (E : Value → Shared → Prop), Q (.bool (g i j)) s → wpAny (model X.prog X.w) X.A (f (.int i t) (.int j u)) Q E s) :
    OpR X f (rI0 fun i j => .bl (g i j)) := by
  intro pins s σ H x y v u Q I rx ry h
  obtain ⟨i, j, rfl, rfl, q⟩ := h
  obtain ⟨t, rfl⟩ := rx
  obtain ⟨t', rfl⟩ := ry
  exact rule i j t t' s _ _ ⟨.bl (g i j), H, I, rfl, q⟩

def CDiv (i j : Int) : Prop := 0 < j ∧ j < 1073741824
def CDivN (i j : Int) : Prop := j ≠ 0 ∧ j.natAbs < 1073741824
def CPow (i j : Int) : Prop := 0 ≤ j ∧ j ≤ 1000000 ∧ i.natAbs < 2 ^ 64
def CMul (i j : Int) : Prop := (-(2 ^ 64) < i ∧ i < 2 ^ 64) ∨ (-(2 ^ 64) < j ∧ j < 2 ^ 64)
theorem CMul.ok {i j : Int} (h : CMul i j) : IntMulOk i j := by
  rcases h with ⟨h1, h2⟩ | ⟨h1, h2⟩
  · exact .of_left (intBits_le_64 h1 h2)
  · exact .of_right (intBits_le_64 h1 h2)
theorem two_pow_nn (k : Nat) : (0 : Int) ≤ 2 ^ k := by
  rw [two_pow_cast]
  exact Int.natCast_nonneg _

theorem op_add : OpR X (binaryOp .Add) (rI0 fun i j => .int (i + j)) := opI0 fun _ _ _ _ _ _ _ q => add_int q
theorem op_sub : OpR X (binaryOp .Sub) (rI0 fun i j => .int (i - j)) := opI0 fun _ _ _ _ _ _ _ q => sub_int q
theorem op_mul : OpR X (binaryOp .Mult) (rI CMul fun i j => .int (i * j)) := opI fun _ _ _ _ _ _ _ hc q => mul_int q hc.ok
/-- // by a positive divisor -/
theorem op_fdiv : OpR X (binaryOp .FloorDiv) (rI CDiv fun i j => .int (i / j)) := opI fun i j _ _ _ _ _ hc q => by
  have h1 : (0 : Int) < j := hc.1
  have h2 : j < 1073741824 := hc.2
  exact floordiv_int (by omega) (by rw [Int.fdiv_eq_ediv_of_nonneg i (by omega)]; exact q) (.inl (PyProof.noPylong_small (by omega)))
theorem op_fdivN : OpR X (binaryOp .FloorDiv) (rI CDivN fun i j => .int (i.fdiv j)) := opI fun _ _ _ _ _ _ _ hc q => floordiv_int hc.1 q (.inl (PyProof.noPylong_small hc.2))
/-- % by a positive divisor of any size -/
theorem op_mod : OpR X (binaryOp .Mod) (rI (fun _ j => 0 < j) fun i j => .int (i % j)) := opI fun i j _ _ _ _ _ hc q => by
  have h1 : (0 : Int) < j := hc
  exact mod_int' (by omega) (by rw [Int.fmod_eq_emod_of_nonneg i (by omega)]; exact q)
theorem op_modN : OpR X (binaryOp .Mod) (rI (fun _ j => j ≠ 0) fun i j => .int (i.fmod j)) := opI fun _ _ _ _ _ _ _ hc q => mod_int' hc q
theorem op_pow : OpR X (binaryOp .Pow) (rI CPow fun i j => .int (i ^ j.toNat)) := opI fun _ _ _ _ _ _ _ hc q => pow_int_small hc.1 hc.2.1 hc.2.2 q
theorem op_shl : OpR X (binaryOp .LShift) (rI CPow fun i j => .int (i * 2 ^ j.toNat)) := opI fun _ _ _ _ _ _ _ hc q => lshift_int_small hc.1 hc.2.1 hc.2.2 q
theorem op_shr : OpR X (binaryOp .RShift) (rI (fun _ j => 0 ≤ j) fun i j => .int (i / 2 ^ j.toNat)) := opI fun i j _ _ _ _ _ hc q =>
  rshift_int hc (by rw [Int.fdiv_eq_ediv_of_nonneg i (two_pow_nn _)]; exact q)
theorem op_and : OpR X (binaryOp .BitAnd) (rI0 fun i j => .int (Builtin.bitAnd i j)) := opI0 fun _ _ _ _ _ _ _ q => and_int q
theorem op_or : OpR X (binaryOp .BitOr) (rI0 fun i j => .int (Builtin.bitOr i j)) := opI0 fun _ _ _ _ _ _ _ q => or_int q
theorem op_xor : OpR X (binaryOp .BitXor) (rI0 fun i j => .int (Builtin.bitXor i j)) := opI0 fun _ _ _ _ _ _ _ q => xor_int q

theorem iop_add : OpR X (inplaceOp .Add) (rI0 fun i j => .int (i + j)) := opI0 fun _ _ _ _ _ _ _ q => iadd_int q
theorem iop_sub : OpR X (inplaceOp .Sub) (rI0 fun i j => .int (i - j)) := opI0 fun _ _ _ _ _ _ _ q => isub_int q
theorem iop_mul : OpR X (inplaceOp .Mult) (rI CMul fun i j => .int (i * j)) := opI fun _ _ _ _ _ _ _ hc q => imul_int q hc.ok
theorem iop_fdiv : OpR X (inplaceOp .FloorDiv) (rI CDiv fun i j => .int (i / j)) := opI fun i j _ _ _ _ _ hc q => by
  have h1 : (0 : Int) < j := hc.1
  have h2 : j < 1073741824 := hc.2
  exact ifloordiv_int (by omega) (by rw [Int.fdiv_eq_ediv_of_nonneg i (by omega)]; exact q) (.inl (PyProof.noPylong_small (by omega)))
theorem iop_mod : OpR X (inplaceOp .Mod) (rI (fun _ j => 0 < j) fun i j => .int (i % j)) := opI fun i j _ _ _ _ _ hc q => by
  have h1 : (0 : Int) < j := hc
  exact imod_int (by omega) (by rw [Int.fmod_eq_emod_of_nonneg i (by omega)]; exact q)
theorem iop_shl : OpR X (inplaceOp .LShift) (rI CPow fun i j => .int (i * 2 ^ j.toNat)) := opI fun _ _ _ _ _ _ _ hc q => ilshift_int_small hc.1 hc.2.1 hc.2.2 q
theorem iop_shr : OpR X (inplaceOp .RShift) (rI (fun _ j => 0 ≤ j) fun i j => .int (i / 2 ^ j.toNat)) := opI fun i j _ _ _ _ _ hc q =>
  irshift_int hc (by rw [Int.fdiv_eq_ediv_of_nonneg i (two_pow_nn _)]; exact q)
theorem iop_and : OpR X (inplaceOp .BitAnd) (rI0 fun i j => .int (Builtin.bitAnd i j)) := opI0 fun _ _ _ _ _ _ _ q => iand_int q
theorem iop_or : OpR X (inplaceOp .BitOr) (rI0 fun i j => .int (Builtin.bitOr i j)) := opI0 fun _ _ _ _ _ _ _ q => ior_int q
theorem iop_xor : OpR X (inplaceOp .BitXor) (rI0 fun i j => .int (Builtin.bitXor i j)) := opI0 fun _ _ _ _ _ _ _ q => ixor_int q

theorem unI {f : Value → Sem Value} {g : Int → Int}
    (rule : ∀ (i : Int) (t : Tok) (s : Shared) (Q : Value → Shared → Prop) (E : Value → Shared → Prop), Q (.int (g i) s.toks) { s with toks := s.toks + 1 } → wpAny (model X.prog X.w) X.A (f (.int i t)) Q E s) :
    UnR X f (rU fun i => .int (g i)) := by
  intro pins s σ H x v Q I rx h
  obtain ⟨i, rfl, q⟩ := h
  obtain ⟨t, rfl⟩ := rx
  exact rule i t s _ _ ⟨.int (g i), H, I.tok _, ⟨_, rfl⟩, q⟩
theorem un_neg : UnR X (unaryOp .USub) (rU fun i => .int (-i)) := unI fun _ _ _ _ _ q => neg_int q
theorem un_inv : UnR X (unaryOp .Invert) (rU fun i => .int (Builtin.bitNot i)) := unI fun _ _ _ _ _ q => invert_int q

/-! ### bools among ints: n += (a < b) -/
theorem op_add_ib : OpR X (binaryOp .Add) (fun x y H Q => ∃ i k, x = .int i ∧ y = .bl k ∧ Q (.int (i + b2i k)) H) := by
  intro pins s σ H x y v u Q I rx ry h
  obtain ⟨i, k, rfl, rfl, q⟩ := h
  obtain ⟨t, rfl⟩ := rx
  cases ry
  exact add_int_bool ⟨.int (i + b2i k), H, I.tok _, ⟨_, rfl⟩, q⟩
end

/-! ### comparisons -/
/-- the scalars that == tells apart as data does -/
def scal : V → V → Bool
  | .non, .non => true | .non, .int _ => true | .int _, .non => true | .non, .bl _ => true | .bl _, .non => true | .non, .str _ => true | .str _, .non => true
  | .int _, .int _ => true | .bl _, .bl _ => true | .str _, .str _ => true | .byt _, .byt _ => true
  | .int _, .str _ => true | .str _, .int _ => true | .bl _, .str _ => true | .str _, .bl _ => true
  | _, _ => false
def rEq : R2 := fun x y H Q => scal x y = true ∧ Q (.bl (decide (x = y))) H
def rNe : R2 := fun x y H Q => scal x y = true ∧ Q (.bl (!decide (x = y))) H

theorem dec_int {i j : Int} : decide (V.int i = V.int j) = (i == j) := by
  rw [Bool.eq_iff_iff]
  simp
theorem dec_bl {i j : Bool} : decide (V.bl i = V.bl j) = (i == j) := by
  rw [Bool.eq_iff_iff]
  simp
theorem dec_str {i j : Str} : decide (V.str i = V.str j) = (i == j) := by
  rw [Bool.eq_iff_iff]
  simp
theorem dec_byt {i j : Array UInt8} : decide (V.byt i = V.byt j) = (i.toList == j.toList) := by
  rw [Bool.eq_iff_iff]
  cases i
  cases j
  simp

section
variable {X : Cx} {a b c : Expr} {ta tb tc : TE} {pos : Pos}
theorem fin_bl {pins : List (Addr × Obj)} {σ : St} {H : Hp} {s : Shared} {Q : VK} {k k' : Bool} (I : Inv X pins σ H s) (q : Q (.bl k) H) (e : k = k') : EP X pins σ Q (.bool k') s := by
  subst e
  exact ⟨.bl k, H, I, rfl, q⟩
theorem op_eq : OpR X (compareOp .Eq) rEq := by
  intro pins s σ H x y v u Q I rx ry h
  obtain ⟨hs, q⟩ := h
  cases x with
  | non =>
    cases rx
    cases y with
    | non => cases ry; exact PySem.EqNone.eq_none_none (fin_bl I q (by simp))
    | bl j => cases ry; exact PySem.EqNone.eq_none_bool (fin_bl I q (by simp))
    | int j => obtain ⟨t', rfl⟩ := ry; exact PySem.EqNone.eq_none_int (fin_bl I q (by simp))
    | str j => obtain ⟨t', rfl⟩ := ry; exact PySem.EqNone.eq_none_str (fin_bl I q (by simp))
    | _ => exact absurd (show false = true from hs) Bool.false_ne_true
  | bl i =>
    cases rx
    cases y with
    | non => cases ry; exact PySem.EqNone.eq_bool_none (fin_bl I q (by simp))
    | bl j => cases ry; exact eq_bool (fin_bl I q dec_bl)
    | str j => obtain ⟨t', rfl⟩ := ry; exact PySem.EqMixed.eq_bool_str (fin_bl I q (by simp))
    | _ => exact absurd (show false = true from hs) Bool.false_ne_true
  | int i =>
    obtain ⟨t, rfl⟩ := rx
    cases y with
    | non => cases ry; exact PySem.EqNone.eq_int_none (fin_bl I q (by simp))
    | int j => obtain ⟨t', rfl⟩ := ry; exact eq_int (fin_bl I q dec_int)
    | str j => obtain ⟨t', rfl⟩ := ry; exact PySem.EqMixed.eq_int_str (fin_bl I q (by simp))
    | _ => exact absurd (show false = true from hs) Bool.false_ne_true
  | str i =>
    obtain ⟨t, rfl⟩ := rx
    cases y with
    | non => cases ry; exact PySem.EqNone.eq_str_none (fin_bl I q (by simp))
    | bl j => cases ry; exact PySem.EqMixed.eq_str_bool (fin_bl I q (by simp))
    | int j => obtain ⟨t', rfl⟩ := ry; exact PySem.EqMixed.eq_str_int (fin_bl I q (by simp))
    | str j => obtain ⟨t', rfl⟩ := ry; exact eq_str (fin_bl I q dec_str)
    | _ => exact absurd (show false = true from hs) Bool.false_ne_true
  | byt i =>
    obtain ⟨t, rfl⟩ := rx
    cases y with
    | byt j => obtain ⟨t', rfl⟩ := ry; exact PySem.W.eq_bytes (fin_bl I q dec_byt)
    | _ => exact absurd (show false = true from hs) Bool.false_ne_true
  | _ => cases y <;> exact absurd (show false = true from hs) Bool.false_ne_true
theorem op_ne : OpR X (compareOp .NotEq) rNe := by
  intro pins s σ H x y v u Q I rx ry h
  obtain ⟨hs, q⟩ := h
  cases x with
  | non =>
    cases rx
    cases y with
    | non => cases ry; exact PySem.EqNone.ne_none_none (fin_bl I q (by simp))
    | bl j => cases ry; exact PySem.EqNone.ne_none_bool (fin_bl I q (by simp))
    | int j => obtain ⟨t', rfl⟩ := ry; exact PySem.EqNone.ne_none_int (fin_bl I q (by simp))
    | str j => obtain ⟨t', rfl⟩ := ry; exact PySem.EqNone.ne_none_str (fin_bl I q (by simp))
    | _ => exact absurd (show false = true from hs) Bool.false_ne_true
  | bl i =>
    cases rx
    cases y with
    | non => cases ry; exact PySem.EqNone.ne_bool_none (fin_bl I q (by simp))
    | bl j => cases ry; exact ne_bool (fin_bl I q (congrArg not dec_bl))
    | str j => obtain ⟨t', rfl⟩ := ry; exact PySem.EqMixed.ne_bool_str (fin_bl I q (by simp))
    | _ => exact absurd (show false = true from hs) Bool.false_ne_true
  | int i =>
    obtain ⟨t, rfl⟩ := rx
    cases y with
    | non => cases ry; exact PySem.EqNone.ne_int_none (fin_bl I q (by simp))
    | int j => obtain ⟨t', rfl⟩ := ry; exact ne_int (fin_bl I q (congrArg not dec_int))
    | str j => obtain ⟨t', rfl⟩ := ry; exact PySem.EqMixed.ne_int_str (fin_bl I q (by simp))
    | _ => exact absurd (show false = true from hs) Bool.false_ne_true
  | str i =>
    obtain ⟨t, rfl⟩ := rx
    cases y with
    | non => cases ry; exact PySem.EqNone.ne_str_none (fin_bl I q (by simp))
    | bl j => cases ry; exact PySem.EqMixed.ne_str_bool (fin_bl I q (by simp))
    | int j => obtain ⟨t', rfl⟩ := ry; exact PySem.EqMixed.ne_str_int (fin_bl I q (by simp))
    | str j => obtain ⟨t', rfl⟩ := ry; exact ne_str (fin_bl I q (congrArg not dec_str))
    | _ => exact absurd (show false = true from hs) Bool.false_ne_true
  | byt i =>
    obtain ⟨t, rfl⟩ := rx
    cases y with
    | byt j => obtain ⟨t', rfl⟩ := ry; exact PySem.W.ne_bytes (fin_bl I q (congrArg not dec_byt))
    | _ => exact absurd (show false = true from hs) Bool.false_ne_true
  | _ => cases y <;> exact absurd (show false = true from hs) Bool.false_ne_true

theorem op_lt : OpR X (compareOp .Lt) (rI0 fun i j => .bl (decide (i < j))) := opB0 fun _ _ _ _ _ _ _ q => lt_int q
theorem op_le : OpR X (compareOp .LtE) (rI0 fun i j => .bl (decide (i ≤ j))) := opB0 fun _ _ _ _ _ _ _ q => le_int q
theorem op_gt : OpR X (compareOp .Gt) (rI0 fun i j => .bl (decide (j < i))) := opB0 fun _ _ _ _ _ _ _ q => gt_int q
theorem op_ge : OpR X (compareOp .GtE) (rI0 fun i j => .bl (decide (j ≤ i))) := opB0 fun _ _ _ _ _ _ _ q => ge_int q
theorem op_lt_str : OpR X (compareOp .Lt) (fun x y H Q => ∃ i j, x = .str i ∧ y = .str j ∧ Q (.bl (decide (i.cps.toList < j.cps.toList))) H) := by
  intro pins s σ H x y v u Q I rx ry h
  obtain ⟨i, j, rfl, rfl, q⟩ := h
  obtain ⟨t, rfl⟩ := rx
  obtain ⟨t', rfl⟩ := ry
  exact lt_str (fin_bl I q rfl)
/-- the one string within the other -/
theorem op_in_str : OpR X (compareOp .In) (fun x y H Q => ∃ i j, x = .str i ∧ y = .str j ∧ Q (.bl (!(Builtin.Str.occurrences j i 0 j.length 1).isEmpty)) H) := by
  intro pins s σ H x y v u Q I rx ry h
  obtain ⟨i, j, rfl, rfl, q⟩ := h
  obtain ⟨t, rfl⟩ := rx
  obtain ⟨t', rfl⟩ := ry
  exact in_str (fin_bl I q rfl)

/-- is None, is not None: the right side a value none -/
theorem op_isN : OpR X (compareOp .Is) (fun x y H Q => y = .non ∧ Q (.bl (decide (x = .non))) H) := by
  intro pins s σ H x y v u Q I rx ry h
  obtain ⟨rfl, q⟩ := h
  cases ry
  refine is_none_gen (fin_bl I q ?_)
  cases x <;> first
    | (cases rx; rfl)
    | (obtain ⟨t, rfl⟩ := rx; rfl)
theorem op_notN : OpR X (compareOp .IsNot) (fun x y H Q => y = .non ∧ Q (.bl (!decide (x = .non))) H) := by
  intro pins s σ H x y v u Q I rx ry h
  obtain ⟨rfl, q⟩ := h
  cases ry
  refine isnot_none_gen (fin_bl I q ?_)
  cases x <;> first
    | (cases rx; rfl)
    | (obtain ⟨t, rfl⟩ := rx; rfl)

theorem op_notin_str : OpR X (compareOp .NotIn) (fun x y H Q => ∃ i j, x = .str i ∧ y = .str j ∧ Q (.bl (!(!(Builtin.Str.occurrences j i 0 j.length 1).isEmpty))) H) := by
  intro pins s σ H x y v u Q I rx ry h
  obtain ⟨i, j, rfl, rfl, q⟩ := h
  obtain ⟨t, rfl⟩ := rx
  obtain ⟨t', rfl⟩ := ry
  exact notIn_str (fin_bl I q rfl)
/-- is, is not of two objects that are tracked lists or instances -/
def isObj : HO → Bool
  | .lst _ => true
  | .ins _ _ _ => true
  | _ => false
theorem obj_there {pins : List (Addr × Obj)} {s : Shared} {σ : St} {H : Hp} {a : Addr} {o : HO} (I : Inv X pins σ H s) (h : H a = some o) (p : isObj o = true) : ∃ ob, s.heap.get? a = some ob ∧ ob.cls ≠ .type "tuple" := by
  cases o with
  | lst xs =>
    obtain ⟨_, its, n, _, e⟩ : xs.length ≤ sizeLine ∧ ∃ (its : List Value) (n : Nat), Vals xs its ∧ s.heap.get? a = some { cls := .type "list", data := .seq its.toArray n } := I.hok a _ h
    exact ⟨_, e, (by show Value.type "list" ≠ .type "tuple"; decide +kernel)⟩
  | ins C dx fs =>
    have x := I.hok a _ h
    obtain ⟨_, _, _, e, _⟩ := x
    exact ⟨_, e, (by show Value.ref C ≠ .type "tuple"; exact fun z => by cases z)⟩
  | _ => exact absurd (show false = true from p) Bool.false_ne_true
theorem op_is_ref : OpR X (compareOp .Is) (fun x y H Q => ∃ a b oa ob, x = .ref a ∧ y = .ref b ∧ H a = some oa ∧ isObj oa = true ∧ H b = some ob ∧ isObj ob = true ∧ Q (.bl (decide (a = b))) H) := by
  intro pins s σ H x y v u Q I rx ry h
  obtain ⟨a, b, oa, ob, rfl, rfl, ha, pa, hb, pb, q⟩ := h
  cases rx
  cases ry
  obtain ⟨o1, e1, n1⟩ := obj_there I ha pa
  obtain ⟨o2, e2, _⟩ := obj_there I hb pb
  by_cases z : a = b
  · subst z
    exact wpAny_is_ref_self (fin_bl I q (by simp))
  · exact wpAny_is_ref_other z e1 e2 n1 (fin_bl I q (by simp [z]))
theorem op_isnot_ref : OpR X (compareOp .IsNot) (fun x y H Q => ∃ a b oa ob, x = .ref a ∧ y = .ref b ∧ H a = some oa ∧ isObj oa = true ∧ H b = some ob ∧ isObj ob = true ∧ Q (.bl (!decide (a = b))) H) := by
  intro pins s σ H x y v u Q I rx ry h
  obtain ⟨a, b, oa, ob, rfl, rfl, ha, pa, hb, pb, q⟩ := h
  cases rx
  cases ry
  obtain ⟨o1, e1, n1⟩ := obj_there I ha pa
  obtain ⟨o2, e2, _⟩ := obj_there I hb pb
  by_cases z : a = b
  · subst z
    exact wpAny_isNot_ref_self (fin_bl I q (by simp))
  · exact wpAny_isNot_ref_other z e1 e2 n1 (fin_bl I q (by simp [z]))

/-- two rules for one operation: by cases -/
theorem OpR.or {f : Value → Value → Sem Value} {r r' : R2} (h : OpR X f r) (h' : OpR X f r') : OpR X f (fun x y H Q => r x y H Q ∨ r' x y H Q) := by
  intro pins s σ H x y v u Q I rx ry q
  rcases q with q | q
  · exact h pins s σ H x y v u Q I rx ry q
  · exact h' pins s σ H x y v u Q I rx ry q

theorem nomark (b : Expr) {op : CmpOp} (h : op ≠ .In := by decide) (h2 : op ≠ .NotIn := by decide) : behindInMarks op b = false := by
  have e1 : (op == CmpOp.In) = false := by cases op <;> first | rfl | exact absurd rfl h
  have e2 : (op == CmpOp.NotIn) = false := by cases op <;> first | rfl | exact absurd rfl h2
  cases b <;> simp [behindInMarks, e1, e2]
/-- a comparison as a value; hm: nomark b, or (for in, not in) by with_unfolding_all rfl -/
theorem pe_cmpR {op : CmpOp} {r : R2} (ho : OpR X (compareOp op) r) (ha : PE X a ta) (hb : PE X b tb) (hm : behindInMarks op b = false) : PE X (.Compare a [op] [b] pos) (tOp r ta tb) := by
  intro pins s σ H Q I h
  exact wpAny_Compare1 (binT ha hb I h fun v u s2 x y H2 I2 rx ry q => ho pins s2 σ H2 x y v u Q I2 rx ry q) hm
/-- a reading of a value as a test -/
def tTest (t : TE) : TT := fun σ H Q => t σ H fun x H' => ∃ k, x = .bl k ∧ Q k H'
theorem pt_cmpR {op : CmpOp} {r : R2} (ho : OpR X (compareOp op) r) (ha : PE X a ta) (hb : PE X b tb) (hm : behindInMarks op b = false) : PT X (.Compare a [op] [b] pos) (tTest (tOp r ta tb)) := by
  intro pins s σ H Q I h
  refine wpAny_isTrue_Compare1 (thn (ha pins s σ H _ I h) fun v s1 ⟨x, H1, I1, r1, q1⟩ => thn (hb pins s1 σ H1 _ I1 q1) fun u s2 ⟨y, H2, I2, r2, q2⟩ =>
    thn (ho pins s2 σ H2 x y v u _ I2 r1 r2 q2) fun c s3 ⟨z, H3, I3, r3, k, e, q3⟩ => ?_) hm
  subst e
  cases r3
  exact wpAny_truthy_bool ⟨H3, I3, q3⟩
/-- a op1 b op2 c -/
def tChain (r r' : R2) (ta tb tc : TE) : TE := fun σ H Q => ta σ H fun x H1 => tb σ H1 fun y H2 => r x y H2 fun z H3 => ∃ k, z = .bl k ∧
  (if k = true then tc σ H3 fun w' H4 => r' y w' H4 Q else Q (.bl false) H3)
theorem pe_chain {op op' : CmpOp} {r r' : R2} (ho : OpR X (compareOp op) r) (ho' : OpR X (compareOp op') r') (ha : PE X a ta) (hb : PE X b tb) (hc : PE X c tc)
    (hm : lastMarks [op, op'] [b, c] = false := by with_unfolding_all rfl) : PE X (.Compare a [op, op'] [b, c] pos) (tChain r r' ta tb tc) := by
  intro pins s σ H Q I h
  refine Compare_chain (thn (ha pins s σ H _ I h) fun v s1 ⟨x, H1, I1, r1, q1⟩ => chain_link (thn (hb pins s1 σ H1 _ I1 q1) fun u s2 ⟨y, H2, I2, r2, q2⟩ =>
    thn (ho pins s2 σ H2 x y v u _ I2 r1 r2 q2) fun d s3 ⟨z, H3, I3, r3, k, e, q3⟩ => ?_)) hm
  subst e
  cases r3
  refine wpAny_truthy_bool ?_
  cases k with
  | false => exact ite_ff ⟨.bl false, H3, I3, rfl, q3⟩
  | true => exact ite_tt (chain_last (thn (hc pins s3 σ H3 _ I3 q3) fun w' s4 ⟨z', H4, I4, r4, q4⟩ => ho' pins s4 σ H4 y z' u w' Q I4 r2 r4 q4))
theorem pt_chain {op op' : CmpOp} {r r' : R2} (ho : OpR X (compareOp op) r) (ho' : OpR X (compareOp op') r') (ha : PE X a ta) (hb : PE X b tb) (hc : PE X c tc)
    (hm : lastMarks [op, op'] [b, c] = false := by with_unfolding_all rfl) : PT X (.Compare a [op, op'] [b, c] pos) (tTest (tChain r r' ta tb tc)) := by
  intro pins s σ H Q I h
  refine isTrue_chain (thn (ha pins s σ H _ I h) fun v s1 ⟨x, H1, I1, r1, q1⟩ => test_link (thn (hb pins s1 σ H1 _ I1 q1) fun u s2 ⟨y, H2, I2, r2, q2⟩ =>
    thn (ho pins s2 σ H2 x y v u _ I2 r1 r2 q2) fun d s3 ⟨z, H3, I3, r3, k, e, q3⟩ => ?_)) hm
  subst e
  cases r3
  refine wpAny_truthy_bool ?_
  cases k with
  | false =>
    obtain ⟨k', e', q'⟩ := q3
    cases e'
    exact ite_ff ⟨H3, I3, q'⟩
  | true =>
    refine ite_tt (test_last (thn (hc pins s3 σ H3 _ I3 q3) fun w' s4 ⟨z', H4, I4, r4, q4⟩ => thn (ho' pins s4 σ H4 y z' u w' _ I4 r2 r4 q4) fun d' s5 ⟨z2, H5, I5, r5, k2, e2, q5⟩ => ?_))
    subst e2
    cases r5
    exact wpAny_truthy_bool ⟨H5, I5, q5⟩

/-! ### truth -/
/-- a value's truth by the abstract heap -/
def TruV (K : PySem.W.Frag) (x : V) (H : Hp) (k : Bool) : Prop :=
  match x with
  | .non => k = false
  | .bl b => k = b
  | .int i => k = (i != 0)
  | .str y => y.length ≤ sizeLine ∧ k = ((y.length : Int) != 0)
  | .byt y => y.size ≤ sizeLine ∧ k = ((y.size : Int) != 0)
  | .ref p => (∃ xs, SqL K H p xs ∧ k = !xs.isEmpty) ∨ (∃ xs, SqT K H p xs ∧ k = !xs.isEmpty) ∨ ∃ kvs, H p = some (.dK kvs) ∧ k = !kvs.isEmpty
  | _ => False
theorem isEmpty_kv {κ : Type} {kvs : List (κ × V)} {vs : List (κ × Value)} (r : KV kvs vs) : (!vs.isEmpty) = !kvs.isEmpty := by
  cases r <;> rfl
theorem isEmpty_of {xs : List V} {its : List Value} (r : Vals xs its) : (!its.toArray.isEmpty) = !xs.isEmpty := by
  cases r <;> simp
theorem line63 : (sizeLine : Nat) < 2 ^ 63 := by rw [sizeLine_eq]; decide
theorem tru_ok : TruR X (fun x H Q => ∃ k, TruV X.K x H k ∧ Q k H) := by
  intro pins s σ H x v Q I rx h
  obtain ⟨k, e, q⟩ := h
  have hl := line63
  have hs : sizeLine = 16777216 := sizeLine_eq
  cases x with
  | non =>
    cases rx
    have e' : k = false := e
    subst e'
    exact truthy_none ⟨H, I, q⟩
  | bl b =>
    cases rx
    have e' : k = b := e
    subst e'
    exact wpAny_truthy_bool ⟨H, I, q⟩
  | int i =>
    obtain ⟨t, rfl⟩ := rx
    have e' : k = (i != 0) := e
    subst e'
    exact PySem.P.truthy_int ⟨H, I, q⟩
  | str y =>
    obtain ⟨t, rfl⟩ := rx
    obtain ⟨hy, e'⟩ : y.length ≤ sizeLine ∧ k = ((y.length : Int) != 0) := e
    subst e'
    exact PySem.P.truthy_str (by omega) ⟨H, I.tok _, q⟩
  | byt y =>
    obtain ⟨t, rfl⟩ := rx
    obtain ⟨hy, e'⟩ : y.size ≤ sizeLine ∧ k = ((y.size : Int) != 0) := e
    subst e'
    exact PySem.W.truthy_bytes (by omega) ⟨H, I.tok _, q⟩
  | ref p =>
    cases rx
    have e' : (∃ xs, SqL X.K H p xs ∧ k = !xs.isEmpty) ∨ (∃ xs, SqT X.K H p xs ∧ k = !xs.isEmpty) ∨ ∃ kvs, H p = some (.dK kvs) ∧ k = !kvs.isEmpty := e
    rcases e' with ⟨xs, hx, e'⟩ | ⟨xs, hx, e'⟩ | ⟨kvs, hx, e'⟩
    · subst e'
      obtain ⟨its, r, pl, hz⟩ := I.list hx
      have hlen := r.length
      exact wpAny_truthy_list pl.isList (by simp only [List.size_toArray]; omega) ⟨H, I.tok _, by rw [isEmpty_of r]; exact q⟩
    · subst e'
      obtain ⟨its, r, pl, hz⟩ := I.tuple hx
      have hlen := r.length
      exact truthy_tuple pl (by simp only [List.size_toArray]; omega) ⟨H, I.tok _, by rw [isEmpty_of r]; exact q⟩
    · subst e'
      obtain ⟨hz, hS, vs, r, m⟩ : kvs.length ≤ sizeLine ∧ (p == sysModules) = false ∧ ∃ vs, KV kvs vs ∧ s.heap.DictOf (mixKind X.prog X.w) p vs := I.hok p _ hx
      have hlen : kvs.length = vs.length := Paired.length r
      exact wpAny_truthy_dict hS m (by omega) ⟨H, I.tok _, by rw [isEmpty_kv r]; exact q⟩
  | _ => exact (show False from e).elim
/-- any expression whose test is its value's truth (a name, a call, a subscript, a field ..: he by fun _ => rfl) -/
theorem pt_truth (ha : PE X a ta) (he : ∀ whole, isTrue a X.env whole = (do let v ← whole; standAt a.pos; holding [v] (truthy v))) :
    PT X a (fun σ H Q => ta σ H fun x H' => ∃ k, TruV X.K x H' k ∧ Q k H') := by
  intro pins s σ H Q I h
  exact isTrue_plain (thn (ha pins s σ H _ I h) fun v s1 ⟨x, H1, I1, r1, q1⟩ => tru_ok pins s1 σ H1 x v Q I1 r1 q1) (he _)

/-! ### strs and bytes -/
theorem pe_byt {x : List UInt8} {k : Nat} : PE X (.Constant (.bytes x) k pos) (fun _ H Q => Q (.byt x.toArray) H) := fun _ _ _ H _ I h => PySem.W.Constant_bytes ⟨.byt x.toArray, H, I.tok _, ⟨_, rfl⟩, h⟩
theorem op_add_str : OpR X (binaryOp .Add) (fun x y H Q => ∃ i j, x = .str i ∧ y = .str j ∧ i.length + j.length ≤ sizeLine ∧ Q (.str (i ++ j)) H) := by
  intro pins s σ H x y v u Q I rx ry h
  obtain ⟨i, j, rfl, rfl, hz, q⟩ := h
  obtain ⟨t, rfl⟩ := rx
  obtain ⟨t', rfl⟩ := ry
  exact add_str (fun t' tk => ⟨.str (i ++ j), H, I.tok _, ⟨_, rfl⟩, q⟩) hz
theorem iop_add_str : OpR X (inplaceOp .Add) (fun x y H Q => ∃ i j, x = .str i ∧ y = .str j ∧ i.length + j.length ≤ sizeLine ∧ Q (.str (i ++ j)) H) := by
  intro pins s σ H x y v u Q I rx ry h
  obtain ⟨i, j, rfl, rfl, hz, q⟩ := h
  obtain ⟨t, rfl⟩ := rx
  obtain ⟨t', rfl⟩ := ry
  exact iadd_str (fun t' tk => ⟨.str (i ++ j), H, I.tok _, ⟨_, rfl⟩, q⟩) hz
theorem op_add_byt : OpR X (binaryOp .Add) (fun x y H Q => ∃ i j, x = .byt i ∧ y = .byt j ∧ i.size + j.size ≤ 16777216 ∧ Q (.byt (i ++ j)) H) := by
  intro pins s σ H x y v u Q I rx ry h
  obtain ⟨i, j, rfl, rfl, hz, q⟩ := h
  obtain ⟨t, rfl⟩ := rx
  obtain ⟨t', rfl⟩ := ry
  exact PySem.W.KBy.add_bytes hz (fun t' tk => ⟨.byt (i ++ j), H, I.tok _, ⟨_, rfl⟩, q⟩)

def PlainIxT (b : Expr) : Prop := ∀ o i, subscripted b false o i = operate [o, i] (getItem o i)
/-- s[i], 0 ≤ i < len -/
theorem pe_item_str (ha : PE X a ta) (hb : PE X b tb) (hs : PlainIxT b) :
    PE X (.Subscript a b pos) (tOp (fun x y H Q => ∃ z i c, x = .str z ∧ y = .int i ∧ 0 ≤ i ∧ i < 2 ^ 63 ∧ i < z.length ∧ z.cps[i.toNat]? = some c ∧ Q (.str ⟨#[c]⟩) H) ta tb) := by
  intro pins s σ H Q I h
  refine Subscript_ (binT ha hb I h fun v u s2 x y H2 I2 rx ry q => ?_)
  obtain ⟨z, i, c, rfl, rfl, h0, h63, h1, hc, q⟩ := q
  obtain ⟨t, rfl⟩ := rx
  obtain ⟨t', rfl⟩ := ry
  have e : seqIndex? i z.length = some i.toNat := PySem.StrLaws.seqIndex_nonneg h0 h1
  exact tail_any (typeIs_str s2 z t) slot_str_getitem.lookup (getItem_str (c := c) (by
    have e1 : decide (i < -(2 ^ 63 : Int)) = false := decide_eq_false (by omega)
    have e2 : decide (i ≥ 2 ^ 63) = false := decide_eq_false (by omega)
    rw [e1, e2] <;> rfl) (by rw [e]; exact hc) ⟨.str ⟨#[c]⟩, H2, I2.tok _, ⟨_, rfl⟩, q⟩) (hs _ _)
/-- b[i], 0 ≤ i < len -/
theorem pe_item_byt (ha : PE X a ta) (hb : PE X b tb) (hs : PlainIxT b) :
    PE X (.Subscript a b pos) (tOp (fun x y H Q => ∃ (z : List UInt8) (i : Int), x = .byt z.toArray ∧ y = .int i ∧ z.length ≤ sizeLine ∧ 0 ≤ i ∧ i < z.length ∧ Q (.int ((z.getD i.toNat 0).toNat : Nat)) H) ta tb) := by
  intro pins s σ H Q I h
  refine Subscript_ (binT ha hb I h fun v u s2 x y H2 I2 rx ry q => ?_)
  obtain ⟨z, i, rfl, rfl, hz, h0, h1, q⟩ := q
  obtain ⟨t, rfl⟩ := rx
  obtain ⟨t', rfl⟩ := ry
  have hl : sizeLine = 16777216 := sizeLine_eq
  exact tail_any (PySem.W.typeIs_bytes s2 z.toArray t) PySem.W.FB.slot_bytes_getitem.lookup (PySem.W.getItem_bytes (by omega) h0 h1 ⟨.int ((z.getD i.toNat 0).toNat : Nat), H2, I2.tok _, ⟨_, rfl⟩, q⟩) (hs _ _)

/-! ### scalar builtins, by CallR -/
theorem vals1 {x : V} {us : List Value} (r : Vals [x] us) : ∃ u, us = [u] ∧ RelV x u := by
  cases r with
  | cons r1 r2 => cases r2; exact ⟨_, rfl, r1⟩
theorem vals2 {x y : V} {us : List Value} (r : Vals [x, y] us) : ∃ u w', us = [u, w'] ∧ RelV x u ∧ RelV y w' := by
  cases r with
  | cons r1 r2 =>
    cases r2 with
    | cons r3 r4 => cases r4; exact ⟨_, _, rfl, r1, r3⟩
theorem call_abs : CallR X (.builtin "abs") (fun xs H Q => ∃ i, xs = [.int i] ∧ Q (.int (if i < 0 then -i else i)) H) := by
  intro pins s σ H xs us Q I r h
  obtain ⟨i, rfl, q⟩ := h
  obtain ⟨u, rfl, t, rfl⟩ := vals1 r
  exact call_abs_int fun u tk => ⟨.int (if i < 0 then -i else i), H, I.tok _, ⟨_, rfl⟩, q⟩
theorem call_max2 (hc : X.calm = true) : CallR X (.builtin "max") (fun xs H Q => ∃ i j, xs = [.int i, .int j] ∧ Q (.int (if j > i then j else i)) H) := by
  intro pins s σ H xs us Q I r h
  obtain ⟨i, j, rfl, q⟩ := h
  obtain ⟨u, w', rfl, ⟨t, rfl⟩, ⟨t', rfl⟩⟩ := vals2 r
  refine max_two_ints (I.ok.hd hc) fun h' tk k => ⟨_, H, I.kept k, ?_, q⟩
  by_cases hj : j > i
  · rw [if_pos hj, if_pos hj]; exact ⟨_, rfl⟩
  · rw [if_neg hj, if_neg hj]; exact ⟨_, rfl⟩
theorem call_min2 (hc : X.calm = true) : CallR X (.builtin "min") (fun xs H Q => ∃ i j, xs = [.int i, .int j] ∧ Q (.int (if j < i then j else i)) H) := by
  intro pins s σ H xs us Q I r h
  obtain ⟨i, j, rfl, q⟩ := h
  obtain ⟨u, w', rfl, ⟨t, rfl⟩, ⟨t', rfl⟩⟩ := vals2 r
  refine min_two_ints (I.ok.hd hc) fun h' tk k => ⟨_, H, I.kept k, ?_, q⟩
  by_cases hj : j < i
  · rw [if_pos hj, if_pos hj]; exact ⟨_, rfl⟩
  · rw [if_neg hj, if_neg hj]; exact ⟨_, rfl⟩
theorem call_int1 : CallR X (.type "int") (fun xs H Q => (∃ i, xs = [.int i] ∧ Q (.int i) H) ∨ ∃ k, xs = [.bl k] ∧ Q (.int (if k then 1 else 0)) H) := by
  intro pins s σ H xs us Q I r h
  rcases h with ⟨i, rfl, q⟩ | ⟨k, rfl, q⟩
  · obtain ⟨u, rfl, t, rfl⟩ := vals1 r
    exact call_int_int ⟨.int i, H, I, ⟨_, rfl⟩, q⟩
  · obtain ⟨u, rfl, r1⟩ := vals1 r
    cases r1
    exact call_int_bool ⟨.int (if k then 1 else 0), H, I.tok _, ⟨_, rfl⟩, q⟩
theorem call_bool1 : CallR X (.type "bool") (fun xs H Q => (∃ i, xs = [.int i] ∧ Q (.bl (i != 0)) H) ∨ ∃ k, xs = [.bl k] ∧ Q (.bl k) H) := by
  intro pins s σ H xs us Q I r h
  rcases h with ⟨i, rfl, q⟩ | ⟨k, rfl, q⟩
  · obtain ⟨u, rfl, t, rfl⟩ := vals1 r
    exact call_bool_int ⟨.bl (i != 0), H, I, rfl, q⟩
  · obtain ⟨u, rfl, r1⟩ := vals1 r
    cases r1
    exact call_bool_bool ⟨.bl k, H, I, rfl, q⟩
theorem call_str_int : CallR X (.type "str") (fun xs H Q => ∃ i, xs = [.int i] ∧ i.natAbs.log2 < 1920 ∧ Q (.str (toString i)) H) := by
  intro pins s σ H xs us Q I r h
  obtain ⟨i, rfl, hz, q⟩ := h
  obtain ⟨u, rfl, t, rfl⟩ := vals1 r
  exact PySem.P.str_of_int hz ⟨.str _, H, I.tok _, ⟨_, rfl⟩, q⟩
theorem call_ord : CallR X (.builtin "ord") (fun xs H Q => ∃ x, xs = [.str x] ∧ x.length = 1 ∧ Q (.int (x.cps.getD 0 0 : Nat)) H) := by
  intro pins s σ H xs us Q I r h
  obtain ⟨x, rfl, hz, q⟩ := h
  obtain ⟨u, rfl, t, rfl⟩ := vals1 r
  exact ord_of_one hz ⟨.int _, H, I.tok _, ⟨_, rfl⟩, q⟩
theorem call_chr : CallR X (.builtin "chr") (fun xs H Q => ∃ i, xs = [.int i] ∧ 0 ≤ i ∧ i ≤ 1114111 ∧ Q (.str ⟨#[i.toNat]⟩) H) := by
  intro pins s σ H xs us Q I r h
  obtain ⟨i, rfl, h0, h1, q⟩ := h
  obtain ⟨u, rfl, t, rfl⟩ := vals1 r
  exact chr_of_range h0 h1 ⟨.str _, H, I.tok _, ⟨_, rfl⟩, q⟩
/-- len of a str, a bytes, a list, a tuple -/
def LenV (K : PySem.W.Frag) (x : V) (H : Hp) (n : Nat) : Prop :=
  match x with
  | .str y => y.length ≤ sizeLine ∧ n = y.length
  | .byt y => y.size ≤ sizeLine ∧ n = y.size
  | .ref p => (∃ xs, SqL K H p xs ∧ n = xs.length) ∨ ∃ xs, SqT K H p xs ∧ n = xs.length
  | _ => False
theorem call_len : CallR X (.builtin "len") (fun xs H Q => ∃ x n, xs = [x] ∧ LenV X.K x H n ∧ Q (.int n) H) := by
  intro pins s σ H xs us Q I r h
  obtain ⟨x, n, rfl, e, q⟩ := h
  obtain ⟨u, rfl, rx⟩ := vals1 r
  have hl := line63
  have hs : sizeLine = 16777216 := sizeLine_eq
  cases x with
  | str y =>
    obtain ⟨t, rfl⟩ := rx
    obtain ⟨hy, e'⟩ : y.length ≤ sizeLine ∧ n = y.length := e
    subst e'
    exact len_str (by omega) ⟨.int _, H, I.tok _, ⟨_, rfl⟩, q⟩
  | byt y =>
    obtain ⟨t, rfl⟩ := rx
    obtain ⟨hy, e'⟩ : y.size ≤ sizeLine ∧ n = y.size := e
    subst e'
    exact PySem.W.len_bytes (by omega) ⟨.int _, H, I.tok _, ⟨_, rfl⟩, q⟩
  | ref p =>
    cases rx
    have e' : (∃ xs, SqL X.K H p xs ∧ n = xs.length) ∨ ∃ xs, SqT X.K H p xs ∧ n = xs.length := e
    rcases e' with ⟨xs, hx, e'⟩ | ⟨xs, hx, e'⟩
    · subst e'
      obtain ⟨its, r', pl, hz⟩ := I.list hx
      have hlen := r'.length
      exact Calls.call_len_list pl.isList (by simp only [List.size_toArray]; omega) ⟨.int xs.length, H, I.tok _, ⟨_, by simp only [List.size_toArray]; rw [hlen]⟩, q⟩
    · subst e'
      obtain ⟨its, r', pl, hz⟩ := I.tuple hx
      have hlen := r'.length
      exact len_tuple pl (by simp only [List.size_toArray]; omega) ⟨.int xs.length, H, I.tok _, ⟨_, by simp only [List.size_toArray]; rw [hlen]⟩, q⟩
  | _ => exact (show False from e).elim
/-- divmod: a new tuple -/
theorem call_divmod : CallR X (.builtin "divmod") (fun xs H Q => ∃ i j, xs = [.int i, .int j] ∧ CDiv i j ∧ ∀ p, H p = none → Q (.ref p) (upd H p (.tup [.int (i / j), .int (i % j)]))) := by
  intro pins s σ H xs us Q I r h
  obtain ⟨i, j, rfl, ⟨h1, h2⟩, q⟩ := h
  obtain ⟨u, w', rfl, ⟨t, rfl⟩, ⟨t', rfl⟩⟩ := vals2 r
  refine divmod_int (by omega) ?_ (.inl (PyProof.noPylong_small (by omega)))
  rw [Int.fdiv_eq_ediv_of_nonneg i (by omega), Int.fmod_eq_emod_of_nonneg i (by omega)]
  have hn : H s.heap.objs.size = none := I.hok.fresh (Nat.le_refl _)
  refine ⟨.ref s.heap.objs.size, _, ?_, rfl, q _ hn⟩
  refine I.laid (fun b o e => Heap.get?_push_of_some _ e) (Nat.le_refl _) ⟨by simp only [List.length_cons, List.length_nil]; rw [sizeLine_eq]; decide, [.int (i / j) s.toks, .int (i % j) (s.toks + 1)], .cons ⟨_, rfl⟩ (.cons ⟨_, rfl⟩ .nil), ?_⟩
  exact ⟨_, Heap.get?_push_size s.heap rfl, rfl, 0, rfl⟩
end
end L2

namespace L2
open PySem PySem.Spec PyProof.Rows

/-! ### an instance, its attributes a map -/
structure ObjM (h : Heap) (x dx C : Addr) (mA : Str → Option Value) : Prop where
  obj : h.get? x = some (PySem.W.instObj C dx)
  ns : h.Ns1 dx mA
  ne : dx ≠ x

theorem lookIn_ns {h : Heap} {dx : Addr} {mA : Str → Option Value} (n : h.Ns1 dx mA) : ∃ od, h.get? dx = some od ∧ ∀ name, PySem.W.lookIn name od = some (mA name) := by
  obtain ⟨o, es, ep, ho, hd, hk, _, hm⟩ := n
  refine ⟨o, ho, fun name => ?_⟩
  have e := hm name
  unfold nsFind findBy at e
  rw [← Array.find?_toList] at e
  unfold PySem.W.lookIn
  rw [hd]
  dsimp only
  split
  · rename_i y q
    rw [q] at e
    exact congrArg some e
  · rename_i q
    rw [q] at e
    have a : es.toList.any (·.refKey) = false := by
      rw [List.any_eq_false]
      intro y hy
      obtain ⟨z, t, hkey⟩ := hk y (Array.mem_toList_iff.mp hy)
      simp [DictEntry.refKey, hkey]
    have a' : ¬ es.toList.any (·.refKey) = true := by rw [a]; exact Bool.false_ne_true
    rw [if_neg a']
    exact congrArg some e

theorem ObjM.look {h : Heap} {x dx C : Addr} {mA : Str → Option Value} (I : ObjM h x dx C mA) : ∃ od, PySem.W.InstAt h x (PySem.W.instObj C dx) C (some od) ∧ ∀ name, PySem.W.lookIn name od = some (mA name) :=
  let ⟨od, ho, hl⟩ := lookIn_ns I.ns
  ⟨od, ⟨I.obj, rfl, rfl, ho⟩, hl⟩

section
variable {prog : Program} {w : World} {A : Around} {E : Value → Shared → Prop} {s : Shared} {K : PySem.W.Frag} {x dx C f : Addr} {mA : Str → Option Value} {name : Str} {v : Value}

theorem get_map {expr : Bool} {Q : Value → Shared → Prop} (X : K.In s.heap) (I : ObjM s.heap x dx C mA) (hg : PySem.W.plainGet K C name = true) (hh : PySem.W.hasDictIn K C = true)
    (ha : PySem.W.findIn K (.ref C) name = some none) (hv : mA name = some v) (hv' : PySem.W.handedIn v = true) (h : Q v { s with toks := s.toks + 1 }) :
    wpAny (model prog w) A (getAttr (.ref x) name expr) Q E s := by
  obtain ⟨od, J, hl⟩ := I.look
  exact PySem.W.get_value X J (PySem.W.plainGet_of hg).1 (PySem.W.findObj_own hh ha rfl (by rw [hl, hv])) hv' h

theorem get_const {expr : Bool} {a : Value} {Q : Value → Shared → Prop} (X : K.In s.heap) (I : ObjM s.heap x dx C mA) (hg : PySem.W.plainGet K C name = true) (hh : PySem.W.hasDictIn K C = true)
    (ha : PySem.W.findIn K (.ref C) name = some (some a)) (hn : PySem.W.specialIn K a "__get__" = some none) (hc : PySem.W.copiedNames.contains name = false) (hv : mA name = none) (hv' : PySem.W.handedIn a = true)
    (h : Q a { s with toks := s.toks + 1 }) : wpAny (model prog w) A (getAttr (.ref x) name expr) Q E s := by
  obtain ⟨od, J, hl⟩ := I.look
  exact PySem.W.get_value X J (PySem.W.plainGet_of hg).1 (PySem.W.findObj_cls hh ha hn hv' hc (by rw [hl, hv])) hv' h

theorem get_meth {pl : Sem Bool} {Q : Value × List Value → Shared → Prop} (X : K.In s.heap) (I : ObjM s.heap x dx C mA) (hg : PySem.W.plainGet K C name = true)
    (hf : PySem.W.findIn K (.ref C) name = some (some (.ref f))) (ht : PySem.W.isFn K (.ref f) = true) (hv : mA name = none) (h : Q (.ref f, [.ref x]) s) :
    wpAny (model prog w) A (getMethod (.ref x) name pl) Q E s := by
  obtain ⟨od, J, hl⟩ := I.look
  exact PySem.W.method_fn X J (PySem.W.plainGet_of hg).1 (PySem.W.plainGet_of hg).2 hf (beq_iff_eq.mp ht) (by show (PySem.W.lookIn name od).map (·.isSome) = some false; rw [hl, hv]; rfl) h

theorem set_map {ns : List Str} {Q : Unit → Shared → Prop} (X : K.In s.heap) (I : ObjM s.heap x dx C mA)
    (hs : PySem.W.findIn K (.ref C) "__setattr__" = some (some (.builtin "object.__setattr__"))) (hp : PySem.W.plainOver K C = true) (ht : PySem.W.takerIn K C name = some none) (hh : PySem.W.hasDictIn K C = true)
    (hw : PySem.Within mA ns) (hsz : ns.length ≤ sizeLine)
    (h : ∀ h', ObjM h' x dx C (fun y => if y = name then some v else mA y) → Heap.SameBut dx s.heap h' → Q () { s with heap := h', toks := s.toks + 2 }) :
    wpAny (model prog w) A (setAttr (.ref x) name v) Q E s := by
  obtain ⟨od, J, hl⟩ := I.look
  refine PySem.W.set_plain X J hs (PySem.W.osa_open (s := { s with toks := s.toks + 1 }) (r := none) X J hp ht fun b => ?_)
  obtain ⟨cd, hc, hd'⟩ := PySem.W.any_some hh
  have hx : s.heap.get? x = some ⟨.ref C, some dx, .plain, #[]⟩ := I.obj
  refine wpAny_bind (wpAny_pure (wpAny_bind (wpAny_bind (wpAny_loadPart hx (wpAny_bind (PySem.W.Looks.here (s := { s with toks := s.toks + 1 }) (PySem.W.looks_clsIn X hc) ?_))))))
  rw [hd']
  refine wpAny_pure (a := some dx) (wpAny_bind (wpAny_pure (wpAny_bind ?_)))
  refine wpAny_nsSet1 (s := { s with toks := s.toks + 1 }) I.ns fun h' hn2 hs2 => ?_
  obtain ⟨oD, esD, epD, hoD, hdD, hcD⟩ := hn2.count (PySem.Within.cons name v hw)
  refine wpAny_bind (wpAny_lookBehind hoD (by rw [hdD]; exact pastItsLine_dict (Nat.le_trans hcD (by rw [List.length_cons]; omega))) ?_)
  exact wpAny_pure (h _ ⟨(hs2.2 _ (Ne.symm I.ne)).trans I.obj, hn2, I.ne⟩ hs2)

/-- C(..): the dict at the heap's end, the instance behind it; then its __init__ -/
theorem make_map {R : Result → Shared → Prop} {vs : List Value} {kw : List (Str × Value)} (X : K.In s.heap) (hm : PySem.W.makesIn K C = true)
    (hi : PySem.W.findIn K (.ref C) "__init__" = some (some (.ref f))) (hf : PySem.W.typeIn K (.ref f) = some (.type "function"))
    (h : codeAny (model prog w) (A.under (.builtin "type.__call__" ⟨.ref C :: vs, kw⟩)) (.call (.ref f) ⟨.ref (s.heap.objs.size + 1) :: vs, kw⟩) (PySem.W.InitBack (s.heap.objs.size + 1) R)
      { s with heap := (s.heap.push PySem.W.emptyDict).push (PySem.W.instObj C s.heap.objs.size) }) :
    codeAny (model prog w) A (.call (.ref C) ⟨vs, kw⟩) R s := by
  obtain ⟨hh, g, d, t, os⟩ := s
  exact PySem.W.make_core (PySem.W.makes_of X hm) (PySem.W.looks_findIn X hi) (fun self => PySem.W.bind_fn X self hf) (.inl rfl) h
/-- C() where there is no __init__ but object's -/
theorem make_map0 {R : Result → Shared → Prop} (X : K.In s.heap) (hm : PySem.W.makesIn K C = true)
    (hi : PySem.W.findIn K (.ref C) "__init__" = some (some (.builtin "object.__init__")))
    (hb : ∀ self, PySem.W.Looks (model prog w) s.heap (bindSpecial (.builtin "object.__init__") self) (.builtin "object.__init__", [self]))
    (h : codeAny (model prog w) (A.under (.builtin "type.__call__" ⟨[.ref C], []⟩)) (.call (.builtin "object.__init__") ⟨[.ref (s.heap.objs.size + 1)], []⟩) (PySem.W.InitBack (s.heap.objs.size + 1) R)
      { s with heap := (s.heap.push PySem.W.emptyDict).push (PySem.W.instObj C s.heap.objs.size) }) :
    codeAny (model prog w) A (.call (.ref C) ⟨[], []⟩) R s := by
  obtain ⟨hh, g, d, t, os⟩ := s
  exact PySem.W.make_core (PySem.W.makes_of X hm) (PySem.W.looks_findIn X hi) hb (.inr ⟨rfl, rfl⟩) h
end

/-! ### the attributes as a list of pairs -/
def putF (f : Str) (v : V) : List (Str × V) → List (Str × V)
  | [] => [(f, v)]
  | (g, x) :: r => if g = f then (g, v) :: r else (g, x) :: putF f v r
theorem lookup_putF (f g : Str) (v : V) : ∀ fs : List (Str × V), (putF f v fs).lookup g = if g = f then some v else fs.lookup g
  | [] => by
    show List.lookup g [(f, v)] = _
    by_cases h : g = f
    · have hb : (g == f) = true := beq_iff_eq.mpr h
      simp only [List.lookup, hb, if_pos h]
    · have hb : (g == f) = false := beq_eq_false_iff_ne.mpr h
      simp only [List.lookup, hb, if_neg h]
  | (k, x) :: r => by
    have ih := lookup_putF f g v r
    rw [show putF f v ((k, x) :: r) = (if k = f then (k, v) :: r else (k, x) :: putF f v r) from rfl]
    by_cases hk : k = f
    · rw [if_pos hk]
      by_cases h : g = k
      · have hb : (g == k) = true := beq_iff_eq.mpr h
        simp only [List.lookup, hb, if_pos (h.trans hk)]
      · have hb : (g == k) = false := beq_eq_false_iff_ne.mpr h
        simp only [List.lookup, hb, if_neg (fun e : g = f => h (e.trans hk.symm))]
    · rw [if_neg hk]
      by_cases h : g = k
      · have hb : (g == k) = true := beq_iff_eq.mpr h
        simp only [List.lookup, hb, if_neg (fun e : g = f => hk (h.symm.trans e))]
      · have hb : (g == k) = false := beq_eq_false_iff_ne.mpr h
        simp only [List.lookup, hb]
        exact ih
theorem keys_putF (f : Str) (v : V) : ∀ fs : List (Str × V), f ∈ (putF f v fs).map (·.1) ∧ ∀ g, g ∈ fs.map (·.1) → g ∈ (putF f v fs).map (·.1)
  | [] => ⟨by simp [putF], fun g h => by simp at h⟩
  | (k, x) :: r => by
    obtain ⟨i1, i2⟩ := keys_putF f v r
    rw [show putF f v ((k, x) :: r) = (if k = f then (k, v) :: r else (k, x) :: putF f v r) from rfl]
    by_cases hk : k = f
    · rw [if_pos hk]
      subst hk
      exact ⟨by simp, fun g h => by simpa using h⟩
    · rw [if_neg hk]
      refine ⟨?_, fun g h => ?_⟩
      · rw [List.map_cons]
        exact List.mem_cons_of_mem _ i1
      · rw [List.map_cons] at h ⊢
        rcases List.mem_cons.mp h with e | e
        · exact List.mem_cons.mpr (.inl e)
        · exact List.mem_cons_of_mem _ (i2 g e)
theorem length_putF (f : Str) (v : V) : ∀ fs : List (Str × V), (putF f v fs).length ≤ fs.length + 1
  | [] => by simp [putF]
  | (k, x) :: r => by
    have ih := length_putF f v r
    rw [show putF f v ((k, x) :: r) = (if k = f then (k, v) :: r else (k, x) :: putF f v r) from rfl]
    by_cases hk : k = f
    · rw [if_pos hk, List.length_cons, List.length_cons]; omega
    · rw [if_neg hk, List.length_cons, List.length_cons]; omega

theorem RelO.some_of {v : V} {o : Option Value} (r : RelO (some v) o) : ∃ u, o = some u ∧ RelV v u := by
  cases o with
  | none => exact (show False from r).elim
  | some u => exact ⟨u, rfl, r⟩
theorem RelO.none_of {o : Option Value} (r : RelO none o) : o = none := by
  cases o with
  | none => rfl
  | some u => exact (show False from r).elim
theorem handed_of {v : V} {u : Value} (r : RelV v u) : PySem.W.handedIn u = true := by
  cases v with
  | non => cases (show u = Value.none from r); rfl
  | bl b => cases (show u = Value.bool b from r); rfl
  | int i => obtain ⟨t, e⟩ := (show ∃ t, u = Value.int i t from r); cases e; rfl
  | str x => obtain ⟨t, e⟩ := (show ∃ t, u = Value.str x t from r); cases e; rfl
  | byt b => obtain ⟨t, e⟩ := (show ∃ t, u = Value.bytes b t from r); cases e; rfl
  | flt b => obtain ⟨t, e⟩ := (show ∃ t, u = Value.float b t from r); cases e; rfl
  | ref a => cases (show u = Value.ref a from r); rfl
  | ty n => cases (show u = Value.type n from r); rfl

section
variable {P : Program} {w : World} {H H' : Hp} {h h' : Heap} {a C dx : Addr} {fs fs' : List (Str × V)}
theorem ins_get (hok : HOk P w H h) (e : H a = some (.ins C dx fs)) : ∃ mA, ObjM h a dx C mA ∧ (∀ f, RelO (fs.lookup f) (mA f)) ∧ PySem.Within mA (fs.map (·.1)) ∧ fs.length ≤ 1000 ∧ H dx = some (.own a) := by
  obtain ⟨d, z, ne, ob, mA, n, r, q⟩ := (show ObjOk P w H h a (.ins C dx fs) from hok a _ e)
  exact ⟨mA, ⟨ob, n, ne⟩, r, q, z, d⟩
end

/-! ### what of the text a class must have -/
structure Cls (K : PySem.W.Frag) (C : Addr) : Prop where
  pg : PySem.W.plainGet K C Str.empty = true
  hd : PySem.W.hasDictIn K C = true
  po : PySem.W.plainOver K C = true
  sa : PySem.W.findIn K (.ref C) "__setattr__" = some (some (.builtin "object.__setattr__"))
theorem Cls.get {K : PySem.W.Frag} {C : Addr} (c : Cls K C) (f : Str) : PySem.W.plainGet K C f = true := c.pg
/-- no class of it has the name -/
def NoAttr (K : PySem.W.Frag) (C : Addr) (f : Str) : Prop := PySem.W.findIn K (.ref C) f = some none
theorem NoAttr.taker {K : PySem.W.Frag} {C : Addr} {f : Str} (n : NoAttr K C f) : PySem.W.takerIn K C f = some none := by
  unfold PySem.W.takerIn
  rw [show PySem.W.findIn K (.ref C) f = some none from n]
  rfl
/-- a constant of the class -/
structure Con (K : PySem.W.Frag) (C : Addr) (f : Str) (v : V) (u : Value) : Prop where
  at_ : PySem.W.findIn K (.ref C) f = some (some u)
  rel : RelV v u
  get : PySem.W.specialIn K u "__get__" = some none
  cp : PySem.W.copiedNames.contains f = false
/-- a method: a plain def of the class or of one above it -/
structure Meth (K : PySem.W.Frag) (C : Addr) (m : Str) (f : Addr) : Prop where
  at_ : PySem.W.findIn K (.ref C) m = some (some (.ref f))
  fn : PySem.W.isFn K (.ref f) = true
  kp : PySem.W.keepIn K (.ref f) = true

section
variable {X : Cx} {pins : List (Addr × Obj)} {σ : St} {H : Hp} {s : Shared} {a C dx : Addr} {fs : List (Str × V)} {f : Str} {v : V} {A : Around} {E : Value → Shared → Prop}

theorem getattr_ok {b : Bool} {Q : Value → Shared → Prop} (I : Inv X pins σ H s) (e : H a = some (.ins C dx fs)) (c : Cls X.K C) (n : NoAttr X.K C f) (l : fs.lookup f = some v)
    (h : ∀ u s', Inv X pins σ H s' → RelV v u → Q u s') : wpAny (model X.prog X.w) A (getAttr (.ref a) f b) Q E s := by
  obtain ⟨mA, O, r, _, _, _⟩ := ins_get I.hok e
  obtain ⟨u, hu, ru⟩ := RelO.some_of (v := v) (o := mA f) (by rw [← l]; exact r f)
  exact get_map I.kIn O (c.get f) c.hd n hu (handed_of ru) (h u _ (I.tok _) ru)

theorem getcon_ok {b : Bool} {u : Value} {Q : Value → Shared → Prop} (I : Inv X pins σ H s) (e : H a = some (.ins C dx fs)) (c : Cls X.K C) (k : Con X.K C f v u) (l : fs.lookup f = none)
    (h : ∀ s', Inv X pins σ H s' → Q u s') : wpAny (model X.prog X.w) A (getAttr (.ref a) f b) Q E s := by
  obtain ⟨mA, O, r, _, _, _⟩ := ins_get I.hok e
  have hn : mA f = none := RelO.none_of (by rw [← l]; exact r f)
  exact get_const I.kIn O (c.get f) c.hd k.at_ k.get k.cp hn (handed_of k.rel) (h _ (I.tok _))

theorem getmeth_ok {m : Str} {g : Addr} {pl : Sem Bool} {Q : Value × List Value → Shared → Prop} (I : Inv X pins σ H s) (e : H a = some (.ins C dx fs)) (c : Cls X.K C) (k : Meth X.K C m g) (l : fs.lookup m = none)
    (h : Q (.ref g, [.ref a]) s) : wpAny (model X.prog X.w) A (getMethod (.ref a) m pl) Q E s := by
  obtain ⟨mA, O, r, _, _, _⟩ := ins_get I.hok e
  have hn : mA m = none := RelO.none_of (by rw [← l]; exact r m)
  exact get_meth I.kIn O (c.get m) k.at_ k.fn hn h

theorem setattr_ok {y : V} {u : Value} {Q : Unit → Shared → Prop} (I : Inv X pins σ H s) (e : H a = some (.ins C dx fs)) (c : Cls X.K C) (n : NoAttr X.K C f) (hl : fs.length < 1000) (ry : RelV y u)
    (h : ∀ s', Inv X pins σ (upd H a (.ins C dx (putF f y fs))) s' → Q () s') : wpAny (model X.prog X.w) A (setAttr (.ref a) f u) Q E s := by
  obtain ⟨mA, O, r, wi, _, ho⟩ := ins_get I.hok e
  have hz : (fs.map (·.1)).length ≤ sizeLine := by rw [List.length_map, sizeLine_eq]; omega
  refine set_map I.kIn O c.sa c.po n.taker c.hd wi hz fun h' O' sb => h _ ?_
  have hd : ∃ o, h'.get? dx = some o := let ⟨o, _, _, e', _⟩ := O'.ns; ⟨o, e'⟩
  refine I.write (x := a) (e := dx) (by rw [e]; exact True.intro) (.inr ho) (fun b q hb z => (sb.2 b hb).trans z) hd ?_
  refine ⟨by rw [upd_ne O.ne]; exact ho, ?_, O.ne, O'.obj, _, O'.ns, fun g => ?_, fun g hg => ?_⟩
  · have := length_putF f y fs; omega
  · show RelO ((putF f y fs).lookup g) (if g = f then some u else mA g)
    rw [lookup_putF]
    by_cases q : g = f
    · rw [if_pos q, if_pos q]; exact ry
    · rw [if_neg q, if_neg q]; exact r g
  · by_cases q : g = f
    · rw [q]; exact (keys_putF f y fs).1
    · refine (keys_putF f y fs).2 g (wi g fun z => hg ?_)
      show (if g = f then some u else mA g) = none
      rw [if_neg q]; exact z

/-- a new instance, tracked, without attributes -/
theorem Inv.made (I : Inv X pins σ H s) : Inv X pins σ (upd (upd H s.heap.objs.size (.own (s.heap.objs.size + 1))) (s.heap.objs.size + 1) (.ins C s.heap.objs.size []))
    { s with heap := (s.heap.push PySem.W.emptyDict).push (PySem.W.instObj C s.heap.objs.size) } := by
  have e1 : (s.heap.push PySem.W.emptyDict).get? s.heap.objs.size = some PySem.W.emptyDict := Heap.get?_push_size s.heap rfl
  have e2 : ((s.heap.push PySem.W.emptyDict).push (PySem.W.instObj C s.heap.objs.size)).get? (s.heap.objs.size + 1) = some (PySem.W.instObj C s.heap.objs.size) := by
    have := Heap.get?_push_size (s.heap.push PySem.W.emptyDict) (o := PySem.W.instObj C s.heap.objs.size) rfl
    rwa [Heap.size_push] at this
  have e3 : (s.heap.push PySem.W.emptyDict).Ns s.heap.objs.size (fun _ => none) := ⟨PySem.W.emptyDict, #[], _, e1, rfl, (fun e he => absurd he (by simp)), fun _ => rfl⟩
  have I1 := I.laid (a := s.heap.objs.size) (o := .own (s.heap.objs.size + 1)) (h' := s.heap.push PySem.W.emptyDict) (t' := s.toks) (fun b u q => Heap.get?_push_of_some _ q) (Nat.le_refl _) ⟨_, e1⟩
  refine I1.laid (a := s.heap.objs.size + 1) (o := .ins C s.heap.objs.size []) (t' := s.toks) (fun b u q => Heap.get?_push_of_some _ q) (Nat.le_of_eq (Heap.size_push _ _)) ?_
  have ne : s.heap.objs.size ≠ s.heap.objs.size + 1 := Nat.ne_of_lt (Nat.lt_succ_self _)
  refine ⟨by rw [upd_ne ne, upd_same], Nat.zero_le _, ne, e2, fun _ => none, (Heap.Ns1.of_empty e3).at fun o q => Heap.get?_push_of_some _ q, fun _ => True.intro, fun y hy => absurd rfl hy⟩

/-- e.f where nothing but the object is asked: through attributeBase (super) and the last hold -/
theorem attr_of {prog : Program} {w : World} {env : Env} {e : Expr} {f : Str} {pos : Pos} {s : Shared} {Q : Value → Shared → Prop} (hb : attributeBase e f env (eval e env) = eval e env)
    (h : wpAny (model prog w) A (eval e env) (fun o s₁ => wpAny (model prog w) A (getAttr o f true) Q E s₁) E s) : wpAny (model prog w) A (eval (.Attribute e f pos) env) Q E s :=
  Attribute_any_ h (by rw [arm_eval_Attribute, hb])
end

/-! ### readings and rules -/
/-- e.f, an attribute of the instance -/
def tFld (K : PySem.W.Frag) (ta : TE) (f : Str) : TE := fun σ H Q => ta σ H fun x H1 => ∃ a C dx fs v, x = .ref a ∧ H1 a = some (.ins C dx fs) ∧ Cls K C ∧ NoAttr K C f ∧ fs.lookup f = some v ∧ Q v H1
/-- e.f, a constant of the class -/
def tCon (K : PySem.W.Frag) (ta : TE) (f : Str) : TE := fun σ H Q => ta σ H fun x H1 => ∃ a C dx fs v u, x = .ref a ∧ H1 a = some (.ins C dx fs) ∧ Cls K C ∧ Con K C f v u ∧ fs.lookup f = none ∧ Q v H1
/-- e.f = value -/
def sFld (K : PySem.W.Frag) (ta tv : TE) (f : Str) : TS := fun D σ H => tv σ H fun y H1 => ta σ H1 fun x H2 => ∃ a C dx fs, x = .ref a ∧ H2 a = some (.ins C dx fs) ∧ Cls K C ∧ NoAttr K C f ∧ fs.length < 1000 ∧
  D.nx σ (upd H2 a (.ins C dx (putF f y fs)))
/-- an augmented operator on two values -/
def InOp (X : Cx) (op : Operator) (rd : V → V → Hp → VK → Prop) : Prop :=
  ∀ (pins : List (Addr × Obj)) (s : Shared) (σ : St) (H : Hp) (x y : V) (u v : Value) (Q : VK), Inv X pins σ H s → RelV x u → RelV y v → rd x y H Q → wpAny (model X.prog X.w) X.A (inplaceOp op u v) (EP X pins σ Q) X.xe s
/-- e.f op= value -/
def sFldAug (K : PySem.W.Frag) (ta tv : TE) (rd : V → V → Hp → VK → Prop) (f : Str) : TS := fun D σ H => ta σ H fun x H1 => ∃ a C dx fs v, x = .ref a ∧ H1 a = some (.ins C dx fs) ∧ Cls K C ∧ NoAttr K C f ∧ fs.lookup f = some v ∧
  tv σ H1 fun y H2 => rd v y H2 fun z H3 => ∃ dx' fs', H3 a = some (.ins C dx' fs') ∧ fs'.length < 1000 ∧ D.nx σ (upd H3 a (.ins C dx' (putF f z fs')))

section
variable {X : Cx} {o e value : Expr} {f : Str} {pos pos' tpos : Pos} {ta tv : TE}
theorem pe_fld (he : PE X e ta) (hb : attributeBase e f X.env (eval e X.env) = eval e X.env) : PE X (.Attribute e f pos) (tFld X.K ta f) := by
  intro pins s σ H Q I h
  refine attr_of hb (thn (he pins s σ H _ I h) fun u s1 ⟨x, H1, I1, rx, a, C, dx, fs, v, ex, ea, c, n, l, q⟩ => ?_)
  subst ex
  obtain rfl : u = Value.ref a := rx
  exact getattr_ok I1 ea c n l fun u' s2 I2 ru => ⟨v, H1, I2, ru, q⟩
theorem pe_con (he : PE X e ta) (hb : attributeBase e f X.env (eval e X.env) = eval e X.env) : PE X (.Attribute e f pos) (tCon X.K ta f) := by
  intro pins s σ H Q I h
  refine attr_of hb (thn (he pins s σ H _ I h) fun u s1 ⟨x, H1, I1, rx, a, C, dx, fs, v, u0, ex, ea, c, k, l, q⟩ => ?_)
  subst ex
  obtain rfl : u = Value.ref a := rx
  exact getcon_ok I1 ea c k l fun s2 I2 => ⟨v, H1, I2, k.rel, q⟩
theorem ps_fld (ha : PE X o ta) (hv : PE X value tv) (hs : swapsWith value (some (.Attribute o f pos')) pos.line X.env = pure false) : PS X (.Assign [.Attribute o f pos'] value pos) (sFld X.K ta tv f) := by
  intro pins s σ H D I h
  refine plainObj_wpAny_Assign_Attribute (thn (hv pins s σ H _ I h) fun u s1 ⟨y, H1, I1, ry, q⟩ => thn (ha pins s1 σ H1 _ I1 q) fun ov s2 ⟨x, H2, I2, rx, a, C, dx, fs, ex, ea, c, n, l, q2⟩ => ?_) hs
  subst ex
  obtain rfl : ov = Value.ref a := rx
  exact setattr_ok I2 ea c n l ry fun s3 I3 => ⟨σ, _, I3, q2⟩
theorem ps_fldaug {op : Operator} {rd : V → V → Hp → VK → Prop} (ha : PE X o ta) (hv : PE X value tv) (hop : InOp X op rd) : PS X (.AugAssign (.Attribute o f tpos) op value pos) (sFldAug X.K ta tv rd f) := by
  intro pins s σ H D I h
  refine wpAny_AugAssign_AttributeAny (thn (ha pins s σ H _ I h) fun ov s1 ⟨x, H1, I1, rx, a, C, dx, fs, v, ex, ea, c, n, l, q⟩ => ?_)
  subst ex
  obtain rfl : ov = Value.ref a := rx
  refine getattr_ok I1 ea c n l fun u s2 I2 ru => thn (hv pins s2 σ H1 _ I2 q) fun w3 s3 ⟨y, H2, I3, ry, q3⟩ => thn (hop pins s3 σ H2 v y u w3 _ I3 ru ry q3) fun w4 s4 ⟨z, H3, I4, rz, dx', fs', ea', l', q4⟩ => ?_
  exact setattr_ok I4 ea' c n l' rz fun s5 I5 => ⟨σ, _, I5, q4⟩
def rAdd : V → V → Hp → VK → Prop := fun x y H Q => ∃ i j, x = .int i ∧ y = .int j ∧ Q (.int (i + j)) H
def rSub : V → V → Hp → VK → Prop := fun x y H Q => ∃ i j, x = .int i ∧ y = .int j ∧ Q (.int (i - j)) H
theorem in_add : InOp X .Add rAdd := by
  rintro pins s σ H x y u v Q I rx ry ⟨i, j, rfl, rfl, q⟩
  obtain ⟨t, rfl⟩ := (show ∃ t, u = Value.int i t from rx)
  obtain ⟨t', rfl⟩ := (show ∃ t', v = Value.int j t' from ry)
  exact PyProof.Rows.iadd_int ⟨.int (i + j), H, I.tok _, ⟨_, rfl⟩, q⟩
theorem in_sub : InOp X .Sub rSub := by
  rintro pins s σ H x y u v Q I rx ry ⟨i, j, rfl, rfl, q⟩
  obtain ⟨t, rfl⟩ := (show ∃ t, u = Value.int i t from rx)
  obtain ⟨t', rfl⟩ := (show ∃ t', v = Value.int j t' from ry)
  exact PyProof.Rows.isub_int ⟨.int (i - j), H, I.tok _, ⟨_, rfl⟩, q⟩

/-- what is between an instance and its method: the tree of a method call -/
theorem methcall_of {pl : Sem Bool} {m : Str} {apos : Pos} {args : List Expr} {pins : List (Addr × Obj)} {s : Shared} {σ : St} {H : Hp} {Q : Value → Shared → Prop} {te : TE} (he : PE X e te) (I : Inv X pins σ H s)
    (h : te σ H fun x H1 => ∃ a C dx fs g, x = .ref a ∧ H1 a = some (.ins C dx fs) ∧ Cls X.K C ∧ Meth X.K C m g ∧ fs.lookup m = none ∧
      ∀ s1, Inv X pins σ H1 s1 → wpAny (model X.prog X.w) X.A (callWith pos (.ref g) [.ref a] (backTo pos (starEach args X.env)) (backToKw pos (keywordEach [] X.env))) Q X.xe s1)
    (ht : eval (.Call (.Attribute e m apos) args [] pos) X.env = (do
      let ov ← eval e X.env
      standAt apos.atName
      let (f, first) ← holding [ov] (getMethod ov m pl)
      callWith pos f first (backTo pos (starEach args X.env)) (backToKw pos (keywordEach [] X.env)))) :
    wpAny (model X.prog X.w) X.A (eval (.Call (.Attribute e m apos) args [] pos) X.env) Q X.xe s := by
  refine PySem.W.methodCall_KW (pl := pl) (thn (he pins s σ H _ I h) fun u s1 ⟨x, H1, I1, rx, a, C, dx, fs, g, ex, ea, c, k, l, q⟩ => ?_) ht
  subst ex
  obtain rfl : u = Value.ref a := rx
  exact getmeth_ok I1 ea c k l (q s1 I1)
end

/-! ### isinstance -/
section
variable {X : Cx} {pins : List (Addr × Obj)} {σ : St} {H : Hp} {s : Shared} {A : Around} {E : Value → Shared → Prop} {Q : Value → Shared → Prop} {c : Value} {b : Bool}
/-- the type of a value, as the fragment's deciders take it; for an instance its class -/
inductive TyOf (K : PySem.W.Frag) (H : Hp) : V → Value → Prop where
  | non : TyOf K H .non (.type "NoneType")
  | bl (x : Bool) : TyOf K H (.bl x) (.type "bool")
  | int (i : Int) : TyOf K H (.int i) (.type "int")
  | str (x : Str) : TyOf K H (.str x) (.type "str")
  | flt (x : UInt64) : TyOf K H (.flt x) (.type "float")
  | lst {a : Addr} {xs : List V} (e : H a = some (.lst xs)) : TyOf K H (.ref a) (.type "list")
  | frz {a : Addr} {o : Obj} {xs : List V} (e : H a = some (.frz o (.lst xs))) : TyOf K H (.ref a) (.type "list")
  | tup {a : Addr} {xs : List V} (e : H a = some (.tup xs)) : TyOf K H (.ref a) (.type "tuple")
  | dK {a : Addr} {kvs : List (Key × V)} (e : H a = some (.dK kvs)) : TyOf K H (.ref a) (.type "dict")
  | dT {a : Addr} {kvs : List (List Key × V)} (e : H a = some (.dT kvs)) : TyOf K H (.ref a) (.type "dict")
  | ins {a C dx : Addr} {fs : List (Str × V)} (e : H a = some (.ins C dx fs)) (cl : Cls K C) (ha : PySem.W.findIn K (.ref C) "__class__" = some (some (.builtin "object.__class__")))
      (hn : PySem.W.specialIn K (.builtin "object.__class__") "__get__" = some (some (.builtin "getset_descriptor.__get__"))) (htk : PySem.W.takesIn K (.builtin "object.__class__") = some true)
      (hm : PySem.W.mroIn K C (.type "object") = some true) : TyOf K H (.ref a) (.ref C)
/-- isinstance(x, c) for one class c, a built-in or an own one: kitOne's answer -/
theorem isinst_ok {x : V} {u t : Value} (I : Inv X pins σ H s) (rx : RelV x u) (ty : TyOf X.K H x t) (e : PySem.W.kitOne X.K t c = some b) (h : ∀ tk, Q (.bool b) { s with toks := tk }) :
    wpAny (model X.prog X.w) A (call (.builtin "isinstance") [u, c]) Q E s := by
  cases ty with
  | non => cases (show u = Value.none from rx); exact PySem.W.kia_one PySem.W.kitx_none I.kIn True.intro e (fun z => nomatch z) h
  | bl y => cases (show u = Value.bool y from rx); exact PySem.W.kia_one PySem.W.kitx_bool I.kIn True.intro e (fun z => nomatch z) h
  | int i => obtain ⟨t, q⟩ := (show ∃ t, u = Value.int i t from rx); cases q; exact PySem.W.kia_one PySem.W.kitx_int I.kIn True.intro e (fun z => nomatch z) h
  | str y => obtain ⟨t, q⟩ := (show ∃ t, u = Value.str y t from rx); cases q; exact PySem.W.kia_one PySem.W.kitx_str I.kIn True.intro e (fun z => nomatch z) h
  | flt y => obtain ⟨t, q⟩ := (show ∃ t, u = Value.float y t from rx); cases q; exact PySem.W.kia_one PySem.W.kitx_float I.kIn True.intro e (fun z => nomatch z) h
  | @lst a xs ea =>
    cases (show u = Value.ref a from rx)
    obtain ⟨_, _, n, _, h1⟩ := (show ObjOk X.prog X.w H s.heap a (.lst xs) from I.hok a _ ea)
    exact PySem.W.kia_one PySem.W.kitx_list I.kIn ⟨_, h1, rfl⟩ e (fun z => nomatch z) h
  | @frz a ob xs ea =>
    cases (show u = Value.ref a from rx)
    obtain ⟨_, _, _, n, _, h1⟩ := (show ObjOk X.prog X.w H s.heap a (.frz ob (.lst xs)) from I.hok a _ ea)
    exact PySem.W.kia_one PySem.W.kitx_list I.kIn ⟨_, h1, rfl⟩ e (fun z => nomatch z) h
  | @tup a xs ea =>
    cases (show u = Value.ref a from rx)
    obtain ⟨_, _, _, p⟩ := (show ObjOk X.prog X.w H s.heap a (.tup xs) from I.hok a _ ea)
    obtain ⟨o, h1, h2, _⟩ := p
    exact PySem.W.kia_one PySem.W.kitx_tuple I.kIn ⟨o, h1, h2⟩ e (fun z => nomatch z) h
  | @dK a kvs ea =>
    cases (show u = Value.ref a from rx)
    obtain ⟨_, _, vs, _, p⟩ := (show ObjOk X.prog X.w H s.heap a (.dK kvs) from I.hok a _ ea)
    obtain ⟨o, es, ep, h1, h2, _⟩ := p
    exact PySem.W.kia_one PySem.W.kitx_dict I.kIn ⟨o, h1, h2.1⟩ e (fun z => nomatch z) h
  | @dT a kvs ea =>
    cases (show u = Value.ref a from rx)
    obtain ⟨_, _, xs, _, o, es, ep, h1, h2, _⟩ := (show ObjOk X.prog X.w H s.heap a (.dT kvs) from I.hok a _ ea)
    exact PySem.W.kia_one PySem.W.kitx_dict I.kIn ⟨o, h1, h2.1⟩ e (fun z => nomatch z) h
  | @ins a C dx fs ea cl ha hn htk hm =>
    cases (show u = Value.ref a from rx)
    obtain ⟨mA, O, _⟩ := ins_get I.hok ea
    obtain ⟨od, J, _⟩ := O.look
    exact PySem.W.kia_one (PySem.W.kitx_own (cl.get _) cl.hd ha hn htk hm) I.kIn J e (fun z => nomatch z) h
end
end L2

namespace L2
open PySem PySem.Spec PyProof.Rows

/-! ### room -/
structure Room (k : Nat) (A : Around) : Prop where
  hd : A.handled = none
  dp : A.depth + 3 * k + 5 < recursionLimit
  un : A.units + 16 * k + 200 < cLine
theorem Room.mono {j k : Nat} {A : Around} (r : Room k A) (h : j ≤ k) : Room j A := ⟨r.hd, by have := r.dp; omega, by have := r.un; omega⟩
theorem Room.deeper {k : Nat} {A : Around} (r : Room (k + 1) A) (env : Env) : Room k (A.deeper env) :=
  ⟨r.hd, by have := r.dp; show A.depth + 1 + 3 * k + 5 < _; omega, by have := r.un; show A.units + 3 + 16 * k + 200 < _; omega⟩
theorem Room.in1 {k : Nat} {A : Around} (r : Room (k + 1) A) : Room k A.in1 :=
  ⟨r.hd, by have := r.dp; show A.depth + 3 * k + 5 < _; omega, by have := r.un; show A.units + 1 + 16 * k + 200 < _; omega⟩
theorem make_depth {A : Around} {C : Addr} {us : List Value} {kw : List (Str × Value)} : (A.under (.builtin "type.__call__" ⟨.ref C :: us, kw⟩)).depth = A.depth + 1 := by
  first | rfl | simp [Around.under, Code.weight, Code.isCreation, Code.isGuard, Code.isCaller, Code.frames, Code.isFrame, guardIds]
theorem make_units {A : Around} {C : Addr} {us : List Value} {kw : List (Str × Value)} : (A.under (.builtin "type.__call__" ⟨.ref C :: us, kw⟩)).units = A.units + 1 := by
  first | rfl | simp [Around.under, Code.cUnits, Code.frames, Code.isFrame]
theorem Room.make {k : Nat} {A : Around} (r : Room (k + 1) A) (C : Addr) (us : List Value) (kw : List (Str × Value)) : Room k (A.under (.builtin "type.__call__" ⟨.ref C :: us, kw⟩)) :=
  ⟨r.hd, by have := r.dp; rw [make_depth]; omega, by have := r.un; rw [make_units]; omega⟩
theorem Room.depth {k : Nat} {A : Around} (r : Room k A) : A.depth < recursionLimit := by have := r.dp; omega
theorem Room.units {k : Nat} {A : Around} (r : Room k A) : A.units + 64 < cLine := by have := r.un; omega
theorem Room.units0 {k : Nat} {A : Around} (r : Room k A) : A.units < cLine := by have := r.un; omega

/-! ### argument lists and displays -/
def tNil : TA := fun _ H Q => Q [] H
def tCons (ta : TE) (tr : TA) : TA := fun σ H Q => ta σ H fun x H1 => tr σ H1 fun xs H2 => Q (x :: xs) H2
section
variable {X : Cx} {e : Expr} {es : List Expr} {te : TE} {t : TA} {pos : Pos}
theorem pa_nil : PA X [] tNil := fun _ _ _ _ H Q I h => Calls.spliced_nil ⟨[], H, I, .nil, h⟩
theorem pa_cons (ha : PE X e te) (hr : PA X es t) (hs : starEach (e :: es) X.env = (false, eval e X.env) :: starEach es X.env := by rfl) : PA X (e :: es) (tCons te t) := by
  intro pos pins s σ H Q I h
  rw [hs]
  show wpAny _ _ (spliced ((false, eval e X.env) :: backTo pos (starEach es X.env))) _ _ s
  refine Calls.spliced_cons (thn (ha pins s σ H _ I h) fun u s1 ⟨x, H1, I1, r1, q1⟩ => ?_)
  exact thn (hr pos pins s1 σ H1 _ I1 q1) fun us s2 ⟨xs, H2, I2, r2, q2⟩ => ⟨x :: xs, H2, I2, .cons r1 r2, q2⟩

/-- a tuple, a list of written items -/
def tTup (t : TA) : TE := fun σ H Q => t σ H fun xs H1 => xs.length ≤ sizeLine ∧ ∀ p, H1 p = none → Q (.ref p) (upd H1 p (.tup xs))
def tLst (t : TA) : TE := fun σ H Q => t σ H fun xs H1 => xs.length ≤ sizeLine ∧ ∀ p, H1 p = none → Q (.ref p) (upd H1 p (.lst xs))
theorem pe_tup {x1} (h : PA X es t) : PE X (.Tuple es x1 pos) (tTup t) := by
  intro pins s σ H Q I hq
  refine wpAny_Tuple_spliced (thn (h pos pins s σ H _ I hq) fun us s1 ⟨xs, H1, I1, r, z, q⟩ => ⟨by rw [← r.length]; exact z, ?_⟩)
  have hf : H1 s1.heap.objs.size = none := I1.hok.fresh (Nat.le_refl _)
  refine ⟨.ref s1.heap.objs.size, upd H1 s1.heap.objs.size (.tup xs), I1.laid (t' := s1.toks) (fun b u e => Heap.get?_push_of_some _ e) (Nat.le_refl _) ?_, rfl, q _ hf⟩
  exact ⟨z, us, r, ⟨_, Heap.get?_push_size _ rfl, rfl, _, rfl⟩⟩
theorem pe_lst (h : PA X es t) : PE X (.List es pos) (tLst t) := by
  intro pins s σ H Q I hq
  refine wpAny_List_spliced (thn (h pos pins s σ H _ I hq) fun us s1 ⟨xs, H1, I1, r, z, q⟩ => ⟨by rw [← r.length]; exact z, ?_⟩)
  have hf : H1 s1.heap.objs.size = none := I1.hok.fresh (Nat.le_refl _)
  refine ⟨.ref s1.heap.objs.size, upd H1 s1.heap.objs.size (.lst xs), I1.laid (t' := s1.toks) (fun b u e => Heap.get?_push_of_some _ e) (Nat.le_refl _) ?_, rfl, q _ hf⟩
  exact ⟨z, us, 0, r, Heap.get?_push_size _ rfl⟩
end

/-! ### what a def promises -/
/-- a def's promise: the bound arguments in the parameters' order, the heap, the wanted end, the wanted exception -/
abbrev Sp := List V → Hp → VK → XK → Prop
/-- how an exception lies behind a call (file 08 gives it): the callers' frames, abstract heap and state ahead of the call, the wish, the exception, the state -/
abbrev CXT := List Env → Hp → Shared → XK → Value → Shared → Prop

/-- the state at a call -/
structure Env0 (P : Program) (w : World) (K : PySem.W.Frag) (mg : Str → Option Value) (base : Heap) (A : Around) (outer : List Env) (s : Shared) (H : Hp) : Prop where
  frames : A.frames = some outer
  mod : Mod K mg base
  bs : ∀ b o, base.get? b = some o → s.heap.get? b = some o ∧ H b = none
  bsz : base.objs.size ≤ s.heap.objs.size
  funs : s.heap.FunFrames base outer
  frf : ∀ b ∈ frs outer, H b = none
  hok : HOk P w H s.heap
  bare : AllBare s.gens
/-- a call's end -/
def CE (outer : List Env) (P : Program) (w : World) (H : Hp) (s : Shared) (Q : VK) (u : Value) (s' : Shared) : Prop :=
  ∃ v H', s'.os = s.os ∧ AllBare s'.gens ∧ Un (frs outer) [] H H' s.heap s'.heap ∧ HOk P w H' s'.heap ∧ RelV v u ∧ Q v H'
def CR (CX : CXT) (outer : List Env) (P : Program) (w : World) (H : Hp) (s : Shared) (Q : VK) (E : XK) (r : Result) (s' : Shared) : Prop :=
  match r with
  | .ok (.ret u) => CE outer P w H s Q u s'
  | .ok _ => False
  | .error e => CX outer H s E e s'
structure FnOk (P : Program) (w : World) (K : PySem.W.Frag) (mg : Str → Option Value) (base : Heap) (CX : CXT) (k : Nat) (f : Addr) (fd : FuncData) (ps : List Str) (sp : Sp) : Prop where
  len : ∀ vs H Q E, sp vs H Q E → vs.length = ps.length
  run : ∀ (A : Around) (outer : List Env) (s : Shared) (H : Hp) (args : Args) (us : List Value) (vs : List V) (Q : VK) (E : XK), Room k A → Env0 P w K mg base A outer s H → BindsTo s fd args (ps.zip us) → Vals vs us → sp vs H Q E →
    codeAny (model P w) A (.call (.ref f) args) (CR CX outer P w H s Q E) s
theorem FnOk.mono {P : Program} {w : World} {K : PySem.W.Frag} {mg : Str → Option Value} {base : Heap} {CX : CXT} {j k : Nat} {f : Addr} {fd : FuncData} {ps : List Str} {sp : Sp} (F : FnOk P w K mg base CX j f fd ps sp) (h : j ≤ k) :
    FnOk P w K mg base CX k f fd ps sp := ⟨F.len, fun A outer s H args us vs Q E hr => F.run A outer s H args us vs Q E (hr.mono h)⟩
/-- a weaker promise -/
theorem FnOk.imp {P : Program} {w : World} {K : PySem.W.Frag} {mg : Str → Option Value} {base : Heap} {CX : CXT} {k : Nat} {f : Addr} {fd : FuncData} {ps : List Str} {sp sp' : Sp} (F : FnOk P w K mg base CX k f fd ps sp)
    (h : ∀ vs H Q E, sp' vs H Q E → sp vs H Q E) : FnOk P w K mg base CX k f fd ps sp' :=
  ⟨fun vs H Q E q => F.len vs H Q E (h _ _ _ _ q), fun A outer s H args us vs Q E hr he hb hv hs => F.run A outer s H args us vs Q E hr he hb hv (h _ _ _ _ hs)⟩

theorem Env0.make {P : Program} {w : World} {K : PySem.W.Frag} {mg : Str → Option Value} {base : Heap} {A : Around} {outer : List Env} {s : Shared} {H : Hp} (e : Env0 P w K mg base A outer s H) (C : Addr) (us : List Value) (kw : List (Str × Value)) :
    Env0 P w K mg base (A.under (.builtin "type.__call__" ⟨.ref C :: us, kw⟩)) outer s H := ⟨by first | exact e.frames | (simpa [Around.under, Code.envs, Code.isFrame, pushEnvs] using e.frames), e.mod, e.bs, e.bsz, e.funs, e.frf, e.hok, e.bare⟩
theorem Env0.in1 {P : Program} {w : World} {K : PySem.W.Frag} {mg : Str → Option Value} {base : Heap} {A : Around} {outer : List Env} {s : Shared} {H : Hp} (e : Env0 P w K mg base A outer s H) :
    Env0 P w K mg base A.in1 outer s H := ⟨e.frames, e.mod, e.bs, e.bsz, e.funs, e.frf, e.hok, e.bare⟩

section
variable {X : Cx} {pins : List (Addr × Obj)} {σ : St} {H : Hp} {s s' : Shared}
/-- from a body: what a callee wants -/
theorem Inv.env0 (I : Inv X pins σ H s) : Env0 X.prog X.w X.K X.mg X.base X.A X.stack s H :=
  ⟨I.ok.frames, I.ok.mod, I.bs, Nat.le_trans I.ok.bsz I.sz, I.stack, I.stkFree, I.hok, I.bare⟩
/-- behind a call -/
theorem Inv.after {Q : VK} {u : Value} (I : Inv X pins σ H s) (h : CE X.stack X.prog X.w H s Q u s') : EP X pins σ Q u s' := by
  obtain ⟨v, H', os, bare, un, hok, r, q⟩ := h
  obtain ⟨hh, g, d, t, os'⟩ := s'
  obtain rfl : os' = s.os := os
  exact ⟨v, H', I.call (h' := hh) (g' := g) (d' := d) (t' := t) (ch := []) un hok bare (fun b z => absurd z (by simp)), r, q⟩
end

/-! ### calls -/
/-- f(..): the written arguments, then the defaults dvs; E: what is wanted of an exception -/
def tCall (sp : Sp) (dvs : List V) (E : XK) (t : TA) : TE := fun σ H Q => t σ H fun vs H1 => sp (vs ++ dvs) H1 Q E
/-- o.m(..) of an instance of the class at C -/
def tMeth (C : Addr) (m : Str) (sp : Sp) (dvs : List V) (E : XK) (ta : TE) (t : TA) : TE := fun σ H Q => ta σ H fun x H1 => ∃ a dx fs, x = .ref a ∧ H1 a = some (.ins C dx fs) ∧ fs.lookup m = none ∧
  t σ H1 fun vs H2 => sp (x :: (vs ++ dvs)) H2 Q E
/-- C(..): a new instance and its dict, then __init__ -/
def tMake (C : Addr) (sp : Sp) (dvs : List V) (E : XK) (t : TA) : TE := fun σ H Q => t σ H fun vs H1 => ∀ x dx, H1 x = none → H1 dx = none → dx ≠ x →
  sp (.ref x :: (vs ++ dvs)) (upd (upd H1 dx (.own x)) x (.ins C dx [])) (fun v H2 => v = .non ∧ Q (.ref x) H2) E

/-- how the parameters are bound: us the positional arguments, kw the keywords' values by name, ds the defaults that fill up -/
def Binds (K : PySem.W.Frag) (fd : FuncData) (ps : List Str) (ds : List Value) : Prop :=
  ∀ (s : Shared) (us : List Value), K.In s.heap → (us ++ ds).length = ps.length → BindsTo s fd ⟨us, []⟩ (ps.zip (us ++ ds))
/-- every parameter is given -/
theorem Binds.all {K : PySem.W.Frag} {fd : FuncData} {ps : List Str} (h : ∀ us : List Value, us.length = ps.length → bindArgs fd ⟨us, []⟩ = pure (ps.zip us)) : Binds K fd ps [] := fun s us _ hl => by
  rw [List.append_nil] at hl ⊢
  exact .of_eq (h us hl)

/-- an exception of a callee reaches what this body wants of exceptions -/
def Passes (CX : CXT) (X : Cx) (E : XK) : Prop := ∀ (pins : List (Addr × Obj)) (σ : St) (H : Hp) (s : Shared) (e : Value) (s' : Shared), Inv X pins σ H s → CX X.stack H s E e s' → X.xe e s'

section
variable {X : Cx} {CX : CXT} {k : Nat} {f C : Addr} {fd : FuncData} {ps : List Str} {sp : Sp} {dvs : List V} {ds : List Value} {E : XK} {x m : Str} {p pos apos : Pos} {e o : Expr} {es : List Expr} {ta : TE} {t : TA}

/-- the callee runs -/
theorem run_fn {pins : List (Addr × Obj)} {σ : St} {H : Hp} {s : Shared} {Q : VK} {us : List Value} {vs : List V} (F : FnOk X.prog X.w X.K X.mg X.base CX k f fd ps sp) (hr : Room k X.A) (hb : Binds X.K fd ps ds) (hd : Vals dvs ds) (hx : Passes CX X E)
    (I : Inv X pins σ H s) (r : Vals vs us) (h : sp (vs ++ dvs) H Q E) : wpAny (model X.prog X.w) X.A (call (.ref f) us) (EP X pins σ Q) X.xe s := by
  have r2 : Vals (vs ++ dvs) (us ++ ds) := r.append hd
  have hl : (us ++ ds).length = ps.length := by rw [← r2.length]; exact F.len _ _ _ _ h
  refine wpAny_call (codeAny_mono (F.run X.A X.stack s H ⟨us, []⟩ (us ++ ds) (vs ++ dvs) Q E hr I.env0 (hb s us I.kIn hl) r2 h) fun r s' hq => ?_)
  cases r with
  | error e => exact hx pins σ H s e s' I hq
  | ok fl =>
    cases fl with
    | ret u => exact I.after hq
    | next => exact False.elim hq
    | brk => exact False.elim hq
    | cont => exact False.elim hq

theorem pe_call (F : FnOk X.prog X.w X.K X.mg X.base CX k f fd ps sp) (hr : Room k X.A) (hg : Gl X x) (hm : X.mg x = some (.ref f)) (hk : PySem.W.keepIn X.K (.ref f) = true) (hb : Binds X.K fd ps ds) (hd : Vals dvs ds) (hx : Passes CX X E)
    (ha : PA X (e :: es) t) (hdb : (x == ("__debug__" : Str)) = false := by decide) (he : starEach (e :: es) X.env = (false, eval e X.env) :: starEach es X.env := by rfl) (hpl : (backTo pos (starEach es X.env)).any (·.1) = false := by rfl) :
    PE X (.Call (.Name x p) (e :: es) [] pos) (tCall sp dvs E t) := by
  intro pins s σ H Q I h
  refine wpAny_Call_Name_kw (ld_glob I hg hm ?_ hdb)
  refine PySem.W.callWith_K (h₀ := X.base) I.ok.mod.kin hk (thn (ha pos pins s σ H _ I h) fun us s1 ⟨vs, H1, I1, r, q⟩ => ⟨I1.kIn, ?_⟩) he hpl
  exact run_fn F hr hb hd hx I1 r q
theorem pe_call0 (F : FnOk X.prog X.w X.K X.mg X.base CX k f fd ps sp) (hr : Room k X.A) (hg : Gl X x) (hm : X.mg x = some (.ref f)) (hk : PySem.W.keepIn X.K (.ref f) = true) (hb : Binds X.K fd ps ds) (hd : Vals dvs ds) (hx : Passes CX X E)
    (hdb : (x == ("__debug__" : Str)) = false := by decide) : PE X (.Call (.Name x p) [] [] pos) (tCall sp dvs E tNil) := by
  intro pins s σ H Q I h
  refine wpAny_Call_Name_kw (ld_glob I hg hm ?_ hdb)
  exact PySem.W.callWith_K0 I.kIn hk (run_fn (us := []) F hr hb hd hx I .nil h)

/-- o.m(e, ..) -/
theorem pe_meth {pl : Sem Bool} (he : PE X o ta) (c : Cls X.K C) (hm : Meth X.K C m f) (F : FnOk X.prog X.w X.K X.mg X.base CX k f fd ps sp) (hr : Room k X.A) (hb : Binds X.K fd ps ds) (hd : Vals dvs ds) (hx : Passes CX X E) (ha : PA X (e :: es) t)
    (hst : starEach (e :: es) X.env = (false, eval e X.env) :: starEach es X.env := by rfl) (hpl : (backTo pos (starEach es X.env)).any (·.1) = false := by rfl)
    (ht : eval (.Call (.Attribute o m apos) (e :: es) [] pos) X.env = (do
      let ov ← eval o X.env
      standAt apos.atName
      let (f, first) ← holding [ov] (getMethod ov m pl)
      callWith pos f first (backTo pos (starEach (e :: es) X.env)) (backToKw pos (keywordEach [] X.env))) := by rfl) :
    PE X (.Call (.Attribute o m apos) (e :: es) [] pos) (tMeth C m sp dvs E ta t) := by
  intro pins s σ H Q I h
  refine PySem.W.methodCall_KW (pl := pl) (thn (he pins s σ H _ I h) fun u s1 ⟨x, H1, I1, rx, a, dx, fs, ex, ea, l, q⟩ => ?_) ht
  subst ex
  obtain rfl : u = Value.ref a := rx
  refine getmeth_ok I1 ea c hm l ?_
  refine PySem.W.callWith_K (first := [.ref a]) (h₀ := X.base) I.ok.mod.kin hm.kp (thn (ha pos pins s1 σ H1 _ I1 q) fun us s2 ⟨vs, H2, I2, r, q2⟩ => ⟨I2.kIn, ?_⟩) hst hpl
  exact run_fn (us := .ref a :: us) (vs := .ref a :: vs) F hr hb hd hx I2 (.cons rfl r) q2
/-- o.m() -/
theorem pe_meth0 {pl : Sem Bool} (he : PE X o ta) (c : Cls X.K C) (hm : Meth X.K C m f) (F : FnOk X.prog X.w X.K X.mg X.base CX k f fd ps sp) (hr : Room k X.A) (hb : Binds X.K fd ps ds) (hd : Vals dvs ds) (hx : Passes CX X E)
    (ht : eval (.Call (.Attribute o m apos) [] [] pos) X.env = (do
      let ov ← eval o X.env
      standAt apos.atName
      let (f, first) ← holding [ov] (getMethod ov m pl)
      callWith pos f first (backTo pos (starEach [] X.env)) (backToKw pos (keywordEach [] X.env))) := by rfl) :
    PE X (.Call (.Attribute o m apos) [] [] pos) (tMeth C m sp dvs E ta tNil) := by
  intro pins s σ H Q I h
  refine PySem.W.methodCall_KW (pl := pl) (thn (he pins s σ H _ I h) fun u s1 ⟨x, H1, I1, rx, a, dx, fs, ex, ea, l, q⟩ => ?_) ht
  subst ex
  obtain rfl : u = Value.ref a := rx
  refine getmeth_ok I1 ea c hm l ?_
  exact PySem.W.callWith_K0 (first := [.ref a]) I1.kIn hm.kp (run_fn (us := [.ref a]) (vs := [.ref a]) F hr hb hd hx I1 (.cons rfl .nil) q)

/-- what a class must have to be made -/
structure Mk (K : PySem.W.Frag) (C f : Addr) : Prop where
  makes : PySem.W.makesIn K C = true
  init : PySem.W.findIn K (.ref C) "__init__" = some (some (.ref f))
  fn : PySem.W.isFn K (.ref f) = true
  kp : PySem.W.keepIn K (.ref C) = true

theorem run_make {pins : List (Addr × Obj)} {σ : St} {H : Hp} {s : Shared} {Q : VK} {us : List Value} {vs : List V} (M : Mk X.K C f) (F : FnOk X.prog X.w X.K X.mg X.base CX k f fd ps sp) (hr : Room (k + 1) X.A) (hb : Binds X.K fd ps ds) (hd : Vals dvs ds)
    (hx : Passes CX X E) (I : Inv X pins σ H s) (r : Vals vs us)
    (h : ∀ x dx, H x = none → H dx = none → dx ≠ x → sp (.ref x :: (vs ++ dvs)) (upd (upd H dx (.own x)) x (.ins C dx [])) (fun v H2 => v = .non ∧ Q (.ref x) H2) E) :
    wpAny (model X.prog X.w) X.A (call (.ref C) us) (EP X pins σ Q) X.xe s := by
  have hq := h (s.heap.objs.size + 1) s.heap.objs.size (I.hok.fresh (Nat.le_succ _)) (I.hok.fresh (Nat.le_refl _)) (Nat.ne_of_lt (Nat.lt_succ_self _))
  have I2 := Inv.made (C := C) I
  have r2 : Vals (V.ref (s.heap.objs.size + 1) :: (vs ++ dvs)) (Value.ref (s.heap.objs.size + 1) :: (us ++ ds)) := .cons rfl (r.append hd)
  have hl : (Value.ref (s.heap.objs.size + 1) :: us ++ ds).length = ps.length := by
    have e := r2.length
    rw [F.len _ _ _ _ hq] at e
    exact e.symm
  refine wpAny_call (make_map (f := f) I.kIn M.makes M.init (beq_iff_eq.mp M.fn) (codeAny_mono (F.run _ X.stack _ _ ⟨Value.ref (s.heap.objs.size + 1) :: us, []⟩ (Value.ref (s.heap.objs.size + 1) :: (us ++ ds)) _ _ E (hr.make C us [])
    (I2.env0.make C us []) (hb _ (Value.ref (s.heap.objs.size + 1) :: us) I2.kIn hl) r2 hq) fun r s' hq' => ?_))
  cases r with
  | error e => exact hx pins σ _ _ e s' I2 hq'
  | ok fl =>
    cases fl with
    | ret u =>
      obtain ⟨v, H', I3, rv, ev, q3⟩ := I2.after hq'
      subst ev
      exact ⟨rv, ⟨V.ref (s.heap.objs.size + 1), H', I3, rfl, q3⟩⟩
    | next => exact False.elim hq'
    | brk => exact False.elim hq'
    | cont => exact False.elim hq'
theorem pe_make (M : Mk X.K C f) (F : FnOk X.prog X.w X.K X.mg X.base CX k f fd ps sp) (hr : Room (k + 1) X.A) (hg : Gl X x) (hm : X.mg x = some (.ref C)) (hb : Binds X.K fd ps ds) (hd : Vals dvs ds) (hx : Passes CX X E)
    (ha : PA X (e :: es) t) (hdb : (x == ("__debug__" : Str)) = false := by decide) (he : starEach (e :: es) X.env = (false, eval e X.env) :: starEach es X.env := by rfl) (hpl : (backTo pos (starEach es X.env)).any (·.1) = false := by rfl) :
    PE X (.Call (.Name x p) (e :: es) [] pos) (tMake C sp dvs E t) := by
  intro pins s σ H Q I h
  refine wpAny_Call_Name_kw (ld_glob I hg hm ?_ hdb)
  refine PySem.W.callWith_K (h₀ := X.base) I.ok.mod.kin M.kp (thn (ha pos pins s σ H _ I h) fun us s1 ⟨vs, H1, I1, r, q⟩ => ⟨I1.kIn, ?_⟩) he hpl
  exact run_make M F hr hb hd hx I1 r q
theorem pe_make0 (M : Mk X.K C f) (F : FnOk X.prog X.w X.K X.mg X.base CX k f fd ps sp) (hr : Room (k + 1) X.A) (hg : Gl X x) (hm : X.mg x = some (.ref C)) (hb : Binds X.K fd ps ds) (hd : Vals dvs ds) (hx : Passes CX X E)
    (hdb : (x == ("__debug__" : Str)) = false := by decide) : PE X (.Call (.Name x p) [] [] pos) (tMake C sp dvs E tNil) := by
  intro pins s σ H Q I h
  refine wpAny_Call_Name_kw (ld_glob I hg hm ?_ hdb)
  exact PySem.W.callWith_K0 I.kIn M.kp (run_make (us := []) M F hr hb hd hx I .nil h)
end

/-! ### keywords -/
/-- the values of the keywords, from the left -/
def PK (X : Cx) (kws : List Keyword) (t : TA) : Prop :=
  ∀ (pos : Pos) (pins : List (Addr × Obj)) (s : Shared) (σ : St) (H : Hp) (Q : List V → Hp → Prop), Inv X pins σ H s → t σ H Q → wpAny (model X.prog X.w) X.A (evalAll ((backToKw pos (keywordEach kws X.env)).map (·.2))) (AP X pins σ Q) X.xe s
section
variable {X : Cx} {CX : CXT} {k : Nat} {f C : Addr} {fd : FuncData} {ps ks : List Str} {sp : Sp} {E : XK} {x m : Str} {p pos apos kpos : Pos} {e o : Expr} {es : List Expr} {kws : List Keyword} {te ta : TE} {t tk : TA} {nm : Option Str}
theorem pk_nil : PK X [] tNil := fun _ _ _ _ H Q I h => wpAny_evalAll_nil ⟨[], H, I, .nil, h⟩
theorem pk_cons (ha : PE X e te) (hr : PK X kws t) : PK X (⟨nm, e, kpos⟩ :: kws) (tCons te t) := by
  intro pos pins s σ H Q I h
  show wpAny _ _ (evalAll ((do let v ← eval e X.env; standAt pos; pure v) :: (backToKw pos (keywordEach kws X.env)).map (·.2))) _ _ s
  refine wpAny_evalAll_cons (wpAny_bind (thn (ha pins s σ H _ I h) fun u s1 ⟨x, H1, I1, r1, q1⟩ => wpAny_bind (wpAny_standAt (wpAny_pure ?_))))
  exact thn (hr pos pins s1 σ H1 _ I1 q1) fun us s2 ⟨xs, H2, I2, r2, q2⟩ => ⟨x :: xs, H2, I2, .cons r1 r2, q2⟩

/-- how a call with keywords binds: g puts the positional values us and the keywords' values ws (names ks) in the parameters' order, defaults among them -/
structure KBinds (K : PySem.W.Frag) (fd : FuncData) (ps ks : List Str) (g : List Value → List Value → List Value) (gV : List V → List V → List V) : Prop where
  to : ∀ (s : Shared) (us ws : List Value), K.In s.heap → (g us ws).length = ps.length → BindsTo s fd ⟨us, ks.zip ws⟩ (ps.zip (g us ws))
  rel : ∀ {vs : List V} {us : List Value} {zs : List V} {ws : List Value}, Vals vs us → Vals zs ws → Vals (gV vs zs) (g us ws)
def tCallK (sp : Sp) (gV : List V → List V → List V) (E : XK) (t tk : TA) : TE := fun σ H Q => t σ H fun vs H1 => tk σ H1 fun zs H2 => sp (gV vs zs) H2 Q E
variable {g : List Value → List Value → List Value} {gV : List V → List V → List V}
theorem run_fnk {pins : List (Addr × Obj)} {σ : St} {H : Hp} {s : Shared} {Q : VK} {us ws : List Value} {vs zs : List V} (F : FnOk X.prog X.w X.K X.mg X.base CX k f fd ps sp) (hr : Room k X.A) (hb : KBinds X.K fd ps ks g gV) (hx : Passes CX X E)
    (I : Inv X pins σ H s) (r : Vals vs us) (rz : Vals zs ws) (h : sp (gV vs zs) H Q E) : wpAny (model X.prog X.w) X.A (call (.ref f) us (ks.zip ws)) (EP X pins σ Q) X.xe s := by
  have r2 := hb.rel r rz
  have hl : (g us ws).length = ps.length := by rw [← r2.length]; exact F.len _ _ _ _ h
  refine wpAny_call (codeAny_mono (F.run X.A X.stack s H ⟨us, ks.zip ws⟩ (g us ws) (gV vs zs) Q E hr I.env0 (hb.to s us ws I.kIn hl) r2 h) fun r s' hq => ?_)
  cases r with
  | error e => exact hx pins σ H s e s' I hq
  | ok fl =>
    cases fl with
    | ret u => exact I.after hq
    | next => exact False.elim hq
    | brk => exact False.elim hq
    | cont => exact False.elim hq
/-- f(e, .., k = v, ..) -/
theorem pe_callK (F : FnOk X.prog X.w X.K X.mg X.base CX k f fd ps sp) (hr : Room k X.A) (hg : Gl X x) (hm : X.mg x = some (.ref f)) (hk : PySem.W.keepIn X.K (.ref f) = true) (hb : KBinds X.K fd ps ks g gV) (hx : Passes CX X E)
    (ha : PA X (e :: es) t) (hkw : PK X kws tk) (hall : (backToKw pos (keywordEach kws X.env)).all (·.1.isSome) = true := by rfl) (hks : (backToKw pos (keywordEach kws X.env)).filterMap (·.1) = ks := by rfl)
    (hdb : (x == ("__debug__" : Str)) = false := by decide) (he : starEach (e :: es) X.env = (false, eval e X.env) :: starEach es X.env := by rfl)
    (hpl : ((backTo pos (starEach (e :: es) X.env)).any (·.1) || (backToKw pos (keywordEach kws X.env)).any (·.1.isNone)) = false := by rfl) :
    PE X (.Call (.Name x p) (e :: es) kws pos) (tCallK sp gV E t tk) := by
  intro pins s σ H Q I h
  refine wpAny_Call_Name_kw (ld_glob I hg hm ?_ hdb)
  refine PySem.W.callWith_KW (h₀ := X.base) I.ok.mod.kin hk hall (thn (ha pos pins s σ H _ I h) fun us s1 ⟨vs, H1, I1, r, q⟩ => ?_) hpl he
  refine thn (hkw pos pins s1 σ H1 _ I1 q) fun ws s2 ⟨zs, H2, I2, rz, q2⟩ => ⟨I2.kIn, ?_⟩
  rw [hks]
  exact run_fnk F hr hb hx I2 r rz q2
end

/-! ### a def's body keeps its promise -/
/-- names: the parameters first -/
structure FnScope (N P : List Str) (sc : Scope) : Prop where
  kind : sc.kind = .function
  co : sc.isCoroutine = false
  gen : sc.isGenerator = false
  nd : N.Nodup
  pre : N.take P.length = P
  par : ∀ x ∈ P, sc.names.lookup x = some .local ∨ sc.names.lookup x = some .cell
  nofree : ∀ y ∈ sc.names, y.2 ≠ .free

theorem bindL_out {kindOf : Str → Option NameKind} {x : Str} : ∀ {binds : List (Str × Value)} {m : Str → Option Value}, (∀ v, (x, v) ∉ binds) → bindL kindOf binds m x = m x
  | [], _, _ => rfl
  | (n, v) :: r, m, h => by
    unfold bindL
    rw [bindL_out fun w hw => h w (List.mem_cons_of_mem _ hw)]
    split
    · have : x ≠ n := by rintro rfl; exact h v List.mem_cons_self
      simp [this]
    · rfl
theorem bindC_out {kindOf : Str → Option NameKind} {x : Str} : ∀ {binds : List (Str × Value)} {m : Str → Option Value}, (∀ v, (x, v) ∉ binds) → bindC kindOf binds m x = m x
  | [], _, _ => rfl
  | (n, v) :: r, m, h => by
    unfold bindC
    rw [bindC_out fun w hw => h w (List.mem_cons_of_mem _ hw)]
    split
    · rfl
    · have : x ≠ n := by rintro rfl; exact h v List.mem_cons_self
      simp [this]
theorem bindL_get {kindOf : Str → Option NameKind} {x : Str} {v : Value} : ∀ {P : List Str} {vs : List Value} {i : Nat} {m : Str → Option Value}, P.Nodup → P[i]? = some x → vs[i]? = some v → kindOf x = some .local →
    bindL kindOf (P.zip vs) m x = some v
  | [], _, _, _, _, h, _, _ => by simp at h
  | _ :: _, [], _, _, _, _, h, _ => by simp at h
  | p :: P, w :: vs, 0, m, nd, h1, h2, hk => by
    simp at h1 h2; subst h1; subst h2
    show bindL kindOf ((p, w) :: P.zip vs) m p = _
    unfold bindL
    rw [bindL_out fun v hv => (List.nodup_cons.mp nd).1 (List.of_mem_zip hv).1, if_pos hk]
    simp
  | p :: P, w :: vs, i + 1, m, nd, h1, h2, hk => by
    show bindL kindOf ((p, w) :: P.zip vs) m x = _
    unfold bindL
    exact bindL_get (i := i) (List.nodup_cons.mp nd).2 (by simpa using h1) (by simpa using h2) hk
theorem bindC_get {kindOf : Str → Option NameKind} {x : Str} {v : Value} : ∀ {P : List Str} {vs : List Value} {i : Nat} {m : Str → Option Value}, P.Nodup → P[i]? = some x → vs[i]? = some v → kindOf x ≠ some .local →
    bindC kindOf (P.zip vs) m x = some v
  | [], _, _, _, _, h, _, _ => by simp at h
  | _ :: _, [], _, _, _, _, h, _ => by simp at h
  | p :: P, w :: vs, 0, m, nd, h1, h2, hk => by
    simp at h1 h2; subst h1; subst h2
    show bindC kindOf ((p, w) :: P.zip vs) m p = _
    unfold bindC
    rw [bindC_out fun v hv => (List.nodup_cons.mp nd).1 (List.of_mem_zip hv).1, if_neg hk]
    simp
  | p :: P, w :: vs, i + 1, m, nd, h1, h2, hk => by
    show bindC kindOf ((p, w) :: P.zip vs) m x = _
    unfold bindC
    exact bindC_get (i := i) (List.nodup_cons.mp nd).2 (by simpa using h1) (by simpa using h2) hk

/-- the names' values at the entry -/
def start (N : List Str) (vs : List V) : St := vs.map some ++ List.replicate (N.length - vs.length) none

/-- the context of a def's body, at its entry; an exception leaves the frame, then lies as CX says -/
def cxOf (CX : CXT) (P : Program) (w : World) (K : PySem.W.Frag) (mg : Str → Option Value) (base : Heap) (N : List Str) (qual : Str) (scope : Scope) (f : Addr) (cd : Value) (A : Around) (outer : List Env) (s : Shared) (H : Hp) (E : XK) : Cx where
  prog := P
  w := w
  K := K
  mg := mg
  base := base
  A := A.deeper (envOfC qual scope s.heap.objs.size f cd)
  N := N
  s₀ := s
  H₀ := H
  env := envOfC qual scope s.heap.objs.size f cd
  outer := outer
  stack := envOfC qual scope s.heap.objs.size f cd :: outer
  ex := []
  calm := true
  fn := fun _ => true
  pn := []
  xe := fun e s' => wpAny (model P w) (A.deeper (envOfC qual scope s.heap.objs.size f cd)) (leaving (envOfC qual scope s.heap.objs.size f cd) e) (fun _ s'' => CX outer H s E e s'') (fun e' s'' => CX outer H s E e' s'') s'

theorem cell_has {sc : Scope} {n : Nat} {x : Str} (h : sc.names.lookup x = some .cell) : ∃ c, (cellsFrom n sc.names []).lookup x = some c := by
  have q := PySem.W.cellsFrom_some sc.names n [] (.inl h)
  exact Option.isSome_iff_exists.mp q

theorem inv_start {CX : CXT} {P : Program} {w : World} {K : PySem.W.Frag} {mg : Str → Option Value} {base : Heap} {N ps : List Str} {qual : Str} {scope : Scope} {f : Addr} {cd : Value} {A : Around} {outer : List Env} {s s1 : Shared} {H : Hp} {E : XK} {us : List Value} {vs : List V}
    (S : FnScope N ps scope) (hd : A.handled = none) (e0 : Env0 P w K mg base A outer s H) (hl : vs.length = ps.length) (r : Vals vs us)
    (x : InCallC s s.heap.objs.size (bindL (envOfC qual scope s.heap.objs.size f cd).kindOf (ps.zip us) fun _ => none) (cellsFrom (s.heap.objs.size + 1) scope.names []) (bindC (envOfC qual scope s.heap.objs.size f cd).kindOf (ps.zip us) fun _ => none) s1) :
    Inv (cxOf CX P w K mg base N qual scope f cd A outer s H E) [] (start N vs) H s1 := by
  have hpl : ps.length ≤ N.length := by have := congrArg List.length S.pre; rw [List.length_take] at this; omega
  obtain ⟨h1, tk, rfl, hk⟩ := x.done
  have noA : ∀ b : Addr, b ∉ (cxOf CX P w K mg base N qual scope f cd A outer s H E).ex := fun b z => absurd (show b ∈ ([] : List Addr) from z) (by simp)
  refine ⟨⟨e0.mod, S.kind, rfl, rfl, Nat.le_refl _, fun y z c h1 h2 => ?_, fun y hy => ?_, fun y c _ h => ?_, fun _ => hd, Around.frames_deeper e0.frames, .inr ⟨rfl, rfl⟩, fun b z => absurd z (noA b), e0.bs, e0.bsz, fun b _ _ => noA b, fun b z => absurd z (noA b), e0.funs, e0.frf⟩,
    rfl, e0.bare, Un.kept hk, ⟨_, x.toInCall.ns, fun i y v h1 h2 h3 => ?_⟩, fun y c h => ⟨_, x.cell y c h⟩, e0.hok.fresh (Nat.le_refl _), fun y c h => ?_, fun p hp => absurd (show p ∈ ([] : List (Addr × Obj)) from hp) (by simp), e0.hok.kept hk, ?_⟩
  · exact name_of_addr x.apart (PySem.mem_of_lookup h1) (PySem.mem_of_lookup h2)
  · have hy : scope.names.lookup y = some .cell ∨ scope.names.lookup y = some .free := hy
    rcases hy with hy | hy
    · exact cell_has hy
    · exact absurd rfl (S.nofree _ (PySem.mem_of_lookup hy))
  · exact Nat.le_of_lt (x.above y c (PySem.mem_of_lookup h))
  · have hi : i < vs.length := by
      unfold start at h2
      by_cases hi : i < vs.length
      · exact hi
      · rw [List.getElem?_append_right (by simpa using hi)] at h2
        rw [List.getElem?_replicate] at h2
        split at h2 <;> cases h2
    have ha : vs[i]? = some v := by
      unfold start at h2
      rw [List.getElem?_append_left (by simpa using hi), List.getElem?_map] at h2
      cases e : vs[i]? with
      | none => rw [e] at h2; cases h2
      | some a => rw [e] at h2; cases h2; rfl
    obtain ⟨u, hu, rv⟩ := r.get ha
    have hp : ps[i]? = some y := by
      rw [← S.pre, List.getElem?_take_of_lt (by omega)]; exact h1
    have ndP : ps.Nodup := by rw [← S.pre]; exact S.nd.sublist (List.take_sublist _ _)
    refine ⟨u, rv, ?_⟩
    rcases S.par y (List.mem_of_getElem? hp) with k | k
    · exact .inl ⟨k, bindL_get ndP hp hu k⟩
    · obtain ⟨c, e⟩ := cell_has (n := s.heap.objs.size + 1) k
      refine .inr ⟨.inl k, c, e, ?_⟩
      have q := x.cell y c e
      rw [bindC_get ndP hp hu (by show scope.names.lookup y ≠ _; rw [k]; decide)] at q
      exact q
  · exact e0.hok.fresh (Nat.le_of_lt (x.above y c (PySem.mem_of_lookup h)))
  · unfold start
    show _ = N.length
    rw [List.length_append, List.length_map, List.length_replicate]
    omega

/-- THE RULE: a def (or a method) of the text, by its body. The body's reading t is chosen for each entry; it is run at the parameters' values -/
theorem fn_of {CX : CXT} {P : Program} {w : World} {K : PySem.W.Frag} {mg : Str → Option Value} {base : Heap} {k : Nat} {f : Addr} {name qual : Str} {params : Arguments} {body : List Stmt} {scope : Scope} {dV kV doc pm cdv ct oc : Value} {an od : Option Addr}
    {osl : Array (Option Value)} {N ps : List Str} {sp : Sp} (lk : K.lookup f = some ⟨oc, od, .func (PySem.W.fnOf name qual params body scope dV kV doc pm an cdv ct), osl⟩) (hcd : PySem.W.codeIn K cdv qual = true) (S : FnScope N ps scope)
    (len : ∀ vs H Q E, sp vs H Q E → vs.length = ps.length)
    (hbody : ∀ (A : Around) (outer : List Env) (s : Shared) (H : Hp) (vs : List V) (Q : VK) (E : XK), Room k (A.deeper (envOfC qual scope s.heap.objs.size f cdv)) → sp vs H Q E →
      ∃ t, PSs (cxOf CX P w K mg base N qual scope f cdv A outer s H E) body t ∧ t { nx := fun _ H' => Q .non H', rt := Q } (start N vs) H) :
    FnOk P w K mg base CX (k + 1) f (PySem.W.fnOf name qual params body scope dV kV doc pm an cdv ct) ps sp := by
  refine ⟨len, fun A outer s H args us vs Q E hr e0 hb r hsp => ?_⟩
  have hl := len _ _ _ _ hsp
  have KX : K.In s.heap := e0.mod.kin.keeps fun b o e => (e0.bs b o e).1
  have lim : s.heap.NoLimit := e0.mod.nolimit.keeps fun b o e => (e0.bs b o e).1
  have hkind : ∀ y ∈ ps.zip us, scope.names.lookup y.1 = some .local ∨ (scope.names.lookup y.1 = some .cell ∧ ((cellsFrom (s.heap.objs.size + 1) scope.names []).lookup y.1).isSome = true) := fun ⟨n, v⟩ hy => by
    rcases S.par n (List.of_mem_zip hy).1 with q | q
    · exact .inl q
    · exact .inr ⟨q, PySem.W.cellsFrom_some _ _ _ (.inl q)⟩
  refine codeAny_call_function hr.depth (KX _ _ lk) rfl S.co S.gen rfl (PySem.W.codeRec_of KX hcd) (hb _ _ _ _ ?_)
  refine wpAny_newFunctionEnv_cells S.kind hkind fun env he s1 x => ?_
  subst he
  refine ⟨lim.keeps x.toInCall.keep, codeAny_func ?_⟩
  obtain ⟨t, ht, hq⟩ := hbody A outer s H vs Q E (hr.deeper _) hsp
  have I : Inv (cxOf CX P w K mg base N qual scope f cdv A outer s H E) [] (start N vs) H s1 := inv_start S hr.hd e0 hl r x
  refine wpAny_mono (ht [] s1 (start N vs) H _ I hq) (fun fl s' hs => ?_) fun e s' hs => hs
  have fin : ∀ {σ' : St} {H' : Hp} {v : V} {u : Value}, Inv (cxOf CX P w K mg base N qual scope f cdv A outer s H E) [] σ' H' s' → RelV v u → Q v H' → CE outer P w H s Q u s' :=
    fun {σ' H' v u} J rv q => ⟨v, H', J.os, J.bare, J.base, J.hok, rv, q⟩
  cases fl with
  | ret u =>
    obtain ⟨v, σ', H', J, rv, q⟩ := hs
    exact fin J rv q
  | next =>
    obtain ⟨σ', H', J, q⟩ := hs
    exact fin (v := V.non) (u := Value.none) J rfl q
  | brk =>
    obtain ⟨_, _, _, q⟩ := hs
    exact False.elim q
  | cont =>
    obtain ⟨_, _, _, q⟩ := hs
    exact False.elim q
end L2

namespace L2
open PySem PySem.Spec PyProof.Rows
section
variable {X : Cx} {x : Str} {p pos : Pos} {e : Expr} {es : List Expr} {t : TA} {id T : String} {r : List V → Hp → VK → Prop}

def tCB (r : List V → Hp → VK → Prop) (t : TA) : TE := fun σ H Q => t σ H fun vs H1 => r vs H1 Q
/-- f(e, ..), f a built-in function -/
theorem pe_callB (hc : CallR X (.builtin id) r) (hg : Gl X x) (hm : X.mg x = none) (hv : bootBuiltins x = some (.builtin id)) (ha : PA X (e :: es) t) (hn : x ≠ "__name__" := by decide) (hdb : (x == ("__debug__" : Str)) = false := by decide)
    (he : starEach (e :: es) X.env = (false, eval e X.env) :: starEach es X.env := by rfl) (hpl : (backTo pos (starEach es X.env)).any (·.1) = false := by rfl) : PE X (.Call (.Name x p) (e :: es) [] pos) (tCB r t) := by
  intro pins s σ H Q I h
  refine wpAny_Call_Name_kw (ld_blt I hg hm hv ?_ hn hdb)
  exact PyProof.Rows.callWith_builtin1 (thn (ha pos pins s σ H _ I h) fun us s1 ⟨vs, H1, I1, r1, q1⟩ => hc pins s1 σ H1 vs us Q I1 r1 q1) he hpl
/-- T(e, ..), T a built-in type -/
theorem pe_callTy (hc : CallR X (.type T) r) (hg : Gl X x) (hm : X.mg x = none) (hv : bootBuiltins x = some (.type T)) (ha : PA X (e :: es) t) (hn : x ≠ "__name__" := by decide) (hdb : (x == ("__debug__" : Str)) = false := by decide)
    (he : starEach (e :: es) X.env = (false, eval e X.env) :: starEach es X.env := by rfl) (hpl : (backTo pos (starEach es X.env)).any (·.1) = false := by rfl) : PE X (.Call (.Name x p) (e :: es) [] pos) (tCB r t) := by
  intro pins s σ H Q I h
  refine wpAny_Call_Name_kw (ld_blt I hg hm hv ?_ hn hdb)
  exact PyProof.Rows.callWith_type1 (thn (ha pos pins s σ H _ I h) fun us s1 ⟨vs, H1, I1, r1, q1⟩ => hc pins s1 σ H1 vs us Q I1 r1 q1) he hpl
/-- T() -/
theorem pe_callTy0 (hc : CallR X (.type T) r) (hg : Gl X x) (hm : X.mg x = none) (hv : bootBuiltins x = some (.type T)) (hn : x ≠ "__name__" := by decide) (hdb : (x == ("__debug__" : Str)) = false := by decide) :
    PE X (.Call (.Name x p) [] [] pos) (tCB r tNil) := by
  intro pins s σ H Q I h
  refine wpAny_Call_Name_kw (ld_blt I hg hm hv ?_ hn hdb)
  exact PyProof.Rows.callWith_type0 (hc pins s σ H [] [] Q I .nil h)
end
end L2

namespace HT
open PySem PyProof.Rows

/-- t < u of tuples of ints -/
def lexLt : List Int → List Int → Bool
  | [], [] => false
  | [], _ :: _ => true
  | _ :: _, [] => false
  | x :: xs, y :: ys => if x = y then lexLt xs ys else decide (x < y)
theorem lexLt_cons (x y : Int) (xs ys : List Int) : lexLt (x :: xs) (y :: ys) = if x = y then lexLt xs ys else decide (x < y) := rfl
theorem lexLt_nil_nil : lexLt [] [] = false := rfl
theorem lexLt_nil_cons (y : Int) (ys : List Int) : lexLt [] (y :: ys) = true := rfl
theorem lexLt_cons_nil (x : Int) (xs : List Int) : lexLt (x :: xs) [] = false := rfl

theorem eqAt_int (A : Around) (s : Shared) (a : Int) (t : Tok) (c : Int) (u : Tok) : ∃ e, SeqAt.EqAt A s (.int a t) (.int c u) e ∧ (e = true ↔ a = c) :=
  ⟨(a == c), SeqAt.EqAt.int_int a t c u, by simp⟩
theorem rcLt_int (A : Around) (s : Shared) (a : Int) (t : Tok) (c : Int) (u : Tok) (prog : Program) (w : World) (E : Value → Shared → Prop) (Q : Value → Shared → Prop) (h : Q (.bool (decide (a < c))) s) :
    wpAny (model prog w) A (richCompare .Lt (.int a t) (.int c u)) Q E s :=
  (PyProof.Rows.lt_int h : wpAny (model prog w) A (compareOp .Lt (.int a t) (.int c u)) Q E s)

section
open PySem.SeqAt
open PySem.AutoSeq1 (wpAny_loadPart')
open PySem.MeetsSeq PySem.MeetsSeq2 PySem.MeetsSeq3

theorem tuple_lt_ints (l b : Addr) (items items2 : Array Value) (n n2 : Nat) (dd dd2 : Option Addr) (sl sl2 : Array (Option Value)) (ns ms : List Int) (hi : IntsAre items.toList ns) (hj : IntsAre items2.toList ms) :
    Meets (Builtin.«tuple.__lt__» ⟨[.ref l, .ref b], []⟩)
      (fun _ R s => s.heap.get? l = some { cls := .type "tuple", dict := dd, data := .seq items n, slots := sl } ∧ s.heap.get? b = some { cls := .type "tuple", dict := dd2, data := .seq items2 n2, slots := sl2 } ∧
        R (.ok (.ret (.bool (lexLt ns ms)))) s) :=
  .of_wp fun prog w A R s h => by
    obtain ⟨hp, g, d, tk, os⟩ := s; obtain ⟨hl, hb, h⟩ := h
    have f2 := AutoSeq1.sub_tuple_tuple
    have z1 : items.size = ns.length := by rw [← hi.length]; simp
    have z2 : items2.size = ms.length := by rw [← hj.length]; simp
    wp_walk using wpAny_loadPart' hl, wpAny_loadPart' hb, wpAny_forIn_list _ (fun rest b s' => b.1 = none ∧ s' = ⟨hp, g, d, tk, os⟩ ∧ ∃ (vs ws : List Value) (ns' ms' : List Int), rest = vs.zip ws ∧
      IntsAre vs ns' ∧ IntsAre ws ms' ∧ ns'.length + items2.size = ms'.length + items.size ∧ R (.ok (.ret (.bool (lexLt ns' ms')))) ⟨hp, g, d, tk, os⟩) _
    case turn =>
      rintro ⟨y, x⟩ rest b s' ⟨hb', rfl, vs, ws, ns', ms', hz, hvi, hwi, hlen, hR⟩
      cases hvi with
      | nil => rw [List.zip_nil_left] at hz; cases hz
      | cons a t hvi' =>
        cases hwi with
        | nil => rw [List.zip_nil_right] at hz; cases hz
        | cons c u hwi' =>
          rw [List.zip_cons_cons] at hz
          injection hz with hyx hrest
          injection hyx with hy hx
          subst hy hx
          rw [lexLt_cons] at hR
          simp only [List.length_cons] at hlen
          obtain ⟨e, he, hiff⟩ := eqAt_int A.in1 ⟨hp, g, d, tk, os⟩ a t c u
          refine wpAny_bind (he prog w _ _ ?_)
          cases e with
          | true =>
            rw [if_pos (hiff.mp rfl)] at hR
            wp_walk
            exact ⟨rfl, rfl, _, _, _, _, hrest, hvi', hwi', by omega, hR⟩
          | false =>
            rw [if_neg (fun q => absurd (hiff.mpr q) Bool.false_ne_true)] at hR
            have hri := rcLt_int A.in1 ⟨hp, g, d, tk, os⟩ a t c u prog w
            wp_walk using hri
            exact ⟨_, rfl, by simpa using hR⟩
    case fin =>
      rintro ⟨b1, b2⟩ s' ⟨hb', rfl, vs, ws, ns', ms', hz, hvi, hwi, hlen, hR⟩
      simp only at hb'
      subst hb'
      have hv : lexLt ns' ms' = decide (items.size < items2.size) := by
        cases hvi with
        | nil =>
          cases hwi with
          | nil =>
            simp only [List.length_nil] at hlen
            rw [lexLt_nil_nil]
            exact (decide_eq_false (by omega)).symm
          | cons c u hw =>
            simp only [List.length_nil, List.length_cons] at hlen
            rw [lexLt_nil_cons]
            exact (decide_eq_true (by omega)).symm
        | cons a t hv =>
          cases hwi with
          | nil =>
            simp only [List.length_nil, List.length_cons] at hlen
            rw [lexLt_cons_nil]
            exact (decide_eq_false (by omega)).symm
          | cons c u hw =>
            rw [List.zip_cons_cons] at hz
            cases hz
      rw [hv] at hR
      wp_walk
      exact ⟨_, rfl, by simpa [Builtin.Tuple.tupleCompareSizes] using hR⟩
    case h =>
      exact ⟨rfl, rfl, items.toList, items2.toList, ns, ms, rfl, hi, hj, by omega, h⟩
end

section
variable {prog : Program} {w : World} {A : Around} {E : Value → Shared → Prop} {s : Shared}

theorem lt_tupInts {l b : Addr} {items items2 : Array Value} {ns ms : List Int} {Q : Value → Shared → Prop} (hl : IsTup s.heap l items) (hb : IsTup s.heap b items2) (hi : IntsAre items.toList ns) (hj : IntsAre items2.toList ms)
    (hu : A.units < cLine) (h : Q (.bool (lexLt ns ms)) s) : wpAny (model prog w) A (compareOp .Lt (.ref l) (.ref b)) Q E s := by
  obtain ⟨⟨cls, dd, data, sl⟩, ho, hc, n, hd⟩ := id hl
  obtain ⟨⟨cls2, dd2, data2, sl2⟩, ho2, hc2, n2, hd2⟩ := id hb
  simp only at hc hd hc2 hd2
  subst hc hd hc2 hd2
  exact richCompare_meets_room (op := .Lt) ⟨_, ho, rfl⟩ ⟨_, ho2, rfl⟩ PySem.F.slot_tuple_lt PySem.F.entry_tuple_lt (PySem.F.args_tuple_lt_2 _ _) (tuple_lt_ints l b items items2 n n2 dd dd2 sl sl2 ns ms hi hj)
    ⟨ho, ho2, show Value.bool (lexLt ns ms) ≠ Value.notImplemented ∧ Q (.bool (lexLt ns ms)) s from ⟨(fun x => nomatch x), h⟩⟩ hu

/-- t + u, t not empty -/
theorem cat_tup {t b : Addr} {vs ws : List Value} {Q : Value → Shared → Prop} (ht : IsTup s.heap t vs.toArray) (hb : IsTup s.heap b ws.toArray) (hv : vs ≠ [])
    (h1 : ws = [] → Q (.ref t) s) (h2 : ws ≠ [] → Q (.ref s.heap.objs.size) { s with heap := s.heap.push { cls := .type "tuple", data := .seq (vs ++ ws).toArray } })
    (hsz : vs.length + ws.length ≤ sizeLine) : wpAny (model prog w) A (binaryOp .Add (.ref t) (.ref b)) Q E s := by
  obtain ⟨⟨cls, dd, data, sl⟩, ho, hc, n, hd⟩ := id ht
  obtain ⟨⟨cls2, dd2, data2, sl2⟩, ho2, hc2, n2, hd2⟩ := id hb
  simp only at hc hd hc2 hd2
  subst hc hd hc2 hd2
  have e : vs.toArray ++ ws.toArray = (vs ++ ws).toArray := by simp
  by_cases hw : ws = []
  · exact concat_meets ⟨_, ho, rfl⟩ ⟨_, ho2, rfl⟩ noFill_tuple_add seq_tuple_add PySem.F.slot_tuple_add PySem.F.entry_tuple_add (PySem.F.args_tuple_add_2 _ _)
      (tuple_addW1 t b vs.toArray ws.toArray n n2 dd dd2 sl sl2 (by simpa using hv) (by simp [hw])) ⟨ho, ho2, h1 hw⟩
  · refine concat_meets ⟨_, ho, rfl⟩ ⟨_, ho2, rfl⟩ noFill_tuple_add seq_tuple_add PySem.F.slot_tuple_add PySem.F.entry_tuple_add (PySem.F.args_tuple_add_2 _ _)
      (tuple_addW2 t b vs.toArray ws.toArray n n2 dd dd2 sl sl2 (by simpa using hv) (by simpa using hw) (by rw [List.size_toArray, List.size_toArray]; exact hsz)) ⟨ho, ho2, ?_⟩
    rw [e]
    exact h2 hw

/-! ### t[a:b], not the whole -/
/-- a slice's bound as a place among n (d where it is left out) -/
def sIx (n d : Nat) : Option Int → Nat
  | none => d
  | some v => if v < 0 then (v + (n : Int)).toNat else min v.toNat n
theorem sIx_none (n d : Nat) : sIx n d none = d := rfl
theorem sIx_nat (n d k : Nat) : sIx n d (some (k : Int)) = min k n := by
  show (if (k : Int) < 0 then ((k : Int) + (n : Int)).toNat else min (k : Int).toNat n) = min k n
  rw [if_neg (by omega), Int.toNat_natCast]
theorem sIx_le (n d : Nat) (hd : d ≤ n) (o : Option Int) : sIx n d o ≤ n := by
  cases o with
  | none => exact hd
  | some v =>
    show (if v < 0 then (v + (n : Int)).toNat else min v.toNat n) ≤ n
    by_cases hv : v < 0
    · rw [if_pos hv]; omega
    · rw [if_neg hv]; exact Nat.min_le_right _ _
theorem clip_eq (v : Int) (n d : Nat) : (if v < 0 then max (v + (n : Int)) 0 else min v (n : Int)) = ((sIx n d (some v) : Nat) : Int) := by
  show (if v < 0 then max (v + (n : Int)) 0 else min v (n : Int)) = (((if v < 0 then (v + (n : Int)).toNat else min v.toNat n) : Nat) : Int)
  by_cases hv : v < 0
  · simp only [if_pos hv]; omega
  · simp only [if_neg hv]; omega
theorem adjust_gen (lo hi : Option Int) (n : Nat) : Builtin.Slice.sliceAdjust lo hi 1 (n : Int) = (((sIx n 0 lo : Nat) : Int), ((sIx n n hi : Nat) : Int)) := by
  have h1 : ¬ ((1 : Int) < 0) := by omega
  unfold Builtin.Slice.sliceAdjust
  simp only [h1, if_false]
  refine Prod.ext ?_ ?_
  · cases lo with
    | none => rfl
    | some v => exact clip_eq v n 0
  · cases hi with
    | none => rfl
    | some v => exact clip_eq v n n
theorem places_gen (i j : Nat) : Builtin.Slice.slicePlaces (i : Int) (j : Int) 1 = j - i := by
  unfold Builtin.Slice.slicePlaces
  have h1 : (1 : Int) > 0 := by omega
  simp only [h1, if_true, Int.ediv_one]
  split <;> omega
theorem slicePart_ {v : Value} {o : Option Int} {Q : Option Int → Shared → Prop} (p : IsPart v o) (h : Q o s) : wpAny (model prog w) A (Builtin.Slice.slicePartIndex v) Q E s := by
  cases p with
  | none => exact slicePart_none h
  | int i t => exact slicePart_int h
theorem sliceApplied_gen {sl : Addr} {vl vu : Value} {lo hi : Option Int} {n : Nat} {Q : Int × Int × Nat → Shared → Prop} (hs : s.heap.IsSliceOf sl vl vu .none) (pl : IsPart vl lo) (pu : IsPart vu hi)
    (h : Q (((sIx n 0 lo : Nat) : Int), 1, sIx n n hi - sIx n 0 lo) s) : wpAny (model prog w) A (Builtin.Slice.sliceApplied (.ref sl) (pure (n : Int))) Q E s := by
  obtain ⟨os, hos, hcs, hds⟩ := id hs
  unfold Builtin.Slice.sliceApplied Builtin.Slice.sliceFields
  refine wpAny_bind (wpAny_bind (wpAny_field hos hds (x := vl) rfl (wpAny_bind (wpAny_field hos hds (x := vu) rfl (wpAny_bind (wpAny_field hos hds (x := .none) rfl (wpAny_pure ?_)))))))
  refine wpAny_bind (slicePart_none ?_)
  show wpAny _ _ (if ((1 : Int) == 0) = true then _ else _) _ _ s
  rw [if_neg (by decide)]
  refine wpAny_bind (slicePart_ pl (wpAny_bind (slicePart_ pu (wpAny_bind (wpAny_pure ?_)))))
  show wpAny _ _ (match Builtin.Slice.sliceAdjust lo hi 1 (n : Int) with | (lo, hi) => pure (lo, (1 : Int), Builtin.Slice.slicePlaces lo hi 1)) _ _ s
  rw [adjust_gen lo hi n]
  show wpAny _ _ (pure (((sIx n 0 lo : Nat) : Int), (1 : Int), Builtin.Slice.slicePlaces ((sIx n 0 lo : Nat) : Int) ((sIx n n hi : Nat) : Int) 1)) _ _ s
  rw [places_gen]
  exact wpAny_pure h
theorem pick_gen (xs : Array Value) (i k : Nat) : ((List.range k).filterMap fun (m : Nat) => xs[((i : Int) + (m : Int) * 1).toNat]?).toArray = ((xs.toList.drop i).take k).toArray := by
  have e : (fun (m : Nat) => xs[((i : Int) + (m : Int) * 1).toNat]?) = fun m => xs[i + m]? := by
    funext m
    have : ((i : Int) + (m : Int) * 1).toNat = i + m := by omega
    rw [this]
  rw [e]
  have := pick_run xs i k
  rw [List.filterMap_map] at this
  have e2 : ((fun x => xs[x]?) ∘ fun x => i + x) = fun m => xs[i + m]? := rfl
  rw [e2] at this
  rw [this]

theorem getItem_tuple_cut {t sl : Addr} {items : Array Value} {vl vu : Value} {lo hi : Option Int} {Q : Value → Shared → Prop} (ht : IsTup s.heap t items) (hs : s.heap.IsSliceOf sl vl vu .none) (pl : IsPart vl lo) (pu : IsPart vu hi)
    (hw : ¬ (sIx items.size 0 lo = 0 ∧ sIx items.size items.size hi = items.size))
    (h : Q (.ref s.heap.objs.size) { s with heap := s.heap.push { cls := .type "tuple", data := .seq ((items.toList.drop (sIx items.size 0 lo)).take (sIx items.size items.size hi - sIx items.size 0 lo)).toArray } })
    (hsz : items.size ≤ sizeLine) : wpAny (model prog w) A (getItem (.ref t) (.ref sl)) Q E s := by
  have htake : sizeOk (.seq ((items.toList.drop (sIx items.size 0 lo)).take (sIx items.size items.size hi - sIx items.size 0 lo)).toArray) := by
    show ((items.toList.drop (sIx items.size 0 lo)).take (sIx items.size items.size hi - sIx items.size 0 lo)).toArray.size ≤ sizeLine
    rw [List.size_toArray, List.length_take, List.length_drop, Array.length_toList]
    omega
  have hj : sIx items.size items.size hi ≤ items.size := sIx_le _ _ (Nat.le_refl _) hi
  obtain ⟨os, hos, hcs, hds⟩ := id hs
  have hTs : s.TypeIs (.ref sl) "slice" := ⟨os, hos, hcs⟩
  unfold getItem
  try with_reducible refine wpAny_holding ?_
  first | refine wpAny_bind (wpAny_pure ?_) | skip
  refine wpAny_bind (wpAny_sequenceKey ht.typeIs (by decide) ?_)
  refine wpAny_bind (wpAny_callSpecial?_slot (name := Str.ofString "__getitem__") ht.typeIs PyProof.Rows.slot_tuple_getitem
    (wpAny_call_entry PyProof.Rows.slot_tuple_getitem ht.typeIs entry_tuple_getitem ?_ (args_tuple_getitem _ _)))
  show wpAny _ _ (Builtin.Tuple.tupleItemsOf (.ref t) >>= _) _ _ s
  refine wpAny_bind (tupleItemsOf_ ht ?_)
  refine wpAny_bind (wpAny_typeOf hTs ?_)
  rw [if_pos (by decide)]
  refine wpAny_bind (sliceApplied_gen hs pl pu ?_)
  have hno : ¬ ((((sIx items.size 0 lo : Nat) : Int) == 0 && (1 : Int) == 1 && (sIx items.size items.size hi - sIx items.size 0 lo) == items.size) = true) := by
    intro q
    rw [Bool.and_eq_true, Bool.and_eq_true] at q
    have q1 : ((sIx items.size 0 lo : Nat) : Int) = 0 := eq_of_beq q.1.1
    have q2 : sIx items.size items.size hi - sIx items.size 0 lo = items.size := eq_of_beq q.2
    exact hw ⟨by omega, by omega⟩
  show wpAny _ _ (if (((sIx items.size 0 lo : Nat) : Int) == 0 && (1 : Int) == 1 && (sIx items.size items.size hi - sIx items.size 0 lo) == items.size) = true then _ else _) _ _ s
  rw [if_neg hno, pick_gen]
  first
    | exact wpAny_bind (m := Builtin.Tuple.tupleExact _) (wpAny_newObj_type (wpAny_pure ⟨_, rfl, wpAny_pure h⟩) htake)
    | exact wpAny_bind (m := Builtin.Tuple.tupleExact _) (wpAny_newObj_type (wpAny_bind (wpAny_pure (wpAny_pure ⟨_, rfl, wpAny_pure h⟩))) htake)
    | exact wpAny_bind (wpAny_bind (m := Builtin.Tuple.tupleExact _) (wpAny_newObj_type (wpAny_pure (wpAny_pure ⟨_, rfl, wpAny_pure h⟩)) htake))
    | exact wpAny_bind (wpAny_bind (m := Builtin.Tuple.tupleExact _) (wpAny_newObj_type (wpAny_pure ⟨_, rfl, wpAny_pure h⟩) htake))
end
end HT

namespace L2
open PySem PySem.Spec PyProof.Rows

/-! ### the parts of a slice -/
abbrev TO := St → Hp → (Option Int → Hp → Prop) → Prop
/-- a slice's part (left out, or an int) -/
def PO (X : Cx) (e : Option Expr) (t : TO) : Prop :=
  ∀ (pins : List (Addr × Obj)) (s : Shared) (σ : St) (H : Hp) (Q : Option Int → Hp → Prop), Inv X pins σ H s → t σ H Q →
    wpAny (model X.prog X.w) X.A (evalPart e X.env) (fun u s' => ∃ o H', Inv X pins σ H' s' ∧ IsPart u o ∧ Q o H') X.xe s
def tNoPart : TO := fun _ H Q => Q none H
def tPart (t : TE) : TO := fun σ H Q => t σ H fun x H1 => ∃ i, x = .int i ∧ Q (some i) H1

theorem intsAre_of {ns : List Int} : ∀ {us : List Value}, Vals (ns.map V.int) us → IntsAre us ns := by
  induction ns with
  | nil => intro us r; rw [List.map_nil] at r; cases r; exact .nil
  | cons n ns ih =>
    intro us r
    rw [List.map_cons] at r
    cases r with
    | cons r1 r2 =>
      obtain ⟨t, e⟩ := r1
      subst e
      exact .cons n t (ih r2)

section
variable {X : Cx} {e : Expr} {te : TE} {lo hi : Option Expr} {tl th : TO} {pos p2 : Pos}

theorem po_none : PO X none tNoPart := by
  intro pins s σ H Q I h
  rw [evalPart_none]
  exact wpAny_pure ⟨none, H, I, .none, h⟩
theorem po_some (h : PE X e te) : PO X (some e) (tPart te) := by
  intro pins s σ H Q I hw
  rw [evalPart_some]
  refine thn (h pins s σ H _ I hw) fun u s1 ⟨x, H1, I1, r1, q1⟩ => ?_
  obtain ⟨i, rfl, q⟩ := q1
  obtain ⟨t, rfl⟩ := r1
  exact ⟨some i, H1, I1, .int i t, q⟩

/-- what a slice of a value is, by values: the slice object stands at sl -/
def SlR (X : Cx) (r : V → Option Int → Option Int → Hp → VK → Prop) : Prop :=
  ∀ (pins : List (Addr × Obj)) (s : Shared) (σ : St) (H : Hp) (x : V) (v vl vu : Value) (lo hi : Option Int) (sl : Addr) (Q : VK), Inv X pins σ H s → RelV x v → s.heap.IsSliceOf sl vl vu .none → IsPart vl lo → IsPart vu hi → r x lo hi H Q →
    ∃ T id, typeLookup (.type T) "__getitem__" = pure (some (.builtin id)) ∧ s.TypeIs v T ∧ wpAny (model X.prog X.w) X.A (getItem v (.ref sl)) (EP X pins σ Q) X.xe s
theorem SlR.or {r r' : V → Option Int → Option Int → Hp → VK → Prop} (h : SlR X r) (h' : SlR X r') : SlR X (fun x lo hi H Q => r x lo hi H Q ∨ r' x lo hi H Q) := by
  intro pins s σ H x v vl vu lo hi sl Q I rx hs pl pu q
  rcases q with q | q
  · exact h pins s σ H x v vl vu lo hi sl Q I rx hs pl pu q
  · exact h' pins s σ H x v vl vu lo hi sl Q I rx hs pl pu q
def tSl (r : V → Option Int → Option Int → Hp → VK → Prop) (te : TE) (tl th : TO) : TE := fun σ H Q => te σ H fun x H1 => tl σ H1 fun l H2 => th σ H2 fun u H3 => r x l u H3 Q
/-- a[lo:hi], any a -/
theorem pe_slice {r : V → Option Int → Option Int → Hp → VK → Prop} (hr : SlR X r) (he : PE X e te) (hl : PO X lo tl) (hu : PO X hi th) : PE X (.Subscript e (.Slice lo hi none p2) pos) (tSl r te tl th) := by
  intro pins s σ H Q I h
  refine Subscript_ (thn (he pins s σ H _ I h) fun v s1 ⟨x, H1, I1, r1, q1⟩ => ?_)
  refine wpAny_Slice (thn (hl pins s1 σ H1 _ I1 q1) fun vl s2 ⟨l, H2, I2, pl, q2⟩ => thn (hu pins s2 σ H2 _ I2 q2) fun vu s3 ⟨u, H3, I3, pu, q3⟩ => ?_)
  rw [evalPart_none]
  refine wpAny_pure ?_
  have I4 : Inv X pins σ H3 { s3 with heap := s3.heap.push { cls := .type "slice", data := .fields #[vl, vu, .none] } } := I3.kept (t' := s3.toks) fun b ob q => Heap.get?_push_of_some _ q
  obtain ⟨T, id, hT, ht, hg⟩ := hr pins { s3 with heap := s3.heap.push { cls := .type "slice", data := .fields #[vl, vu, .none] } } σ H3 x v vl vu l u s3.heap.objs.size Q I4 r1 (Heap.IsSliceOf.new ..) pl pu q3
  show wpAny (model X.prog X.w) X.A (subscriptTail e (.Slice lo hi none p2) v (.ref s3.heap.objs.size)) (EP X pins σ Q) X.xe { s3 with heap := s3.heap.push { cls := .type "slice", data := .fields #[vl, vu, .none] } }
  exact tail_any (ops := [.ref s3.heap.objs.size, v]) ht hT hg (by with_unfolding_all rfl)

/-- the items of xs[lo:hi] -/
def cutV (xs : List V) (lo hi : Option Int) : List V := (xs.drop (HT.sIx xs.length 0 lo)).take (HT.sIx xs.length xs.length hi - HT.sIx xs.length 0 lo)
theorem cutV_length (xs : List V) (lo hi : Option Int) : (cutV xs lo hi).length ≤ xs.length := by
  unfold cutV
  rw [List.length_take, List.length_drop]
  omega
/-- t[lo:hi], not the whole of it (the whole would be t itself) -/
def rSlT (K : PySem.W.Frag) : V → Option Int → Option Int → Hp → VK → Prop := fun x lo hi H Q => ∃ a xs, x = .ref a ∧ SqT K H a xs ∧
  ¬ (HT.sIx xs.length 0 lo = 0 ∧ HT.sIx xs.length xs.length hi = xs.length) ∧ ∀ p, H p = none → Q (.ref p) (upd H p (.tup (cutV xs lo hi)))
theorem sl_tup : SlR X (rSlT X.K) := by
  intro pins s σ H x v vl vu lo hi sl Q I rx hs pl pu h
  obtain ⟨a, xs, rfl, hx, hw, q⟩ := h
  cases rx
  obtain ⟨its, r, ht, hz⟩ := I.tuple hx
  have hlen : its.toArray.size = xs.length := by rw [List.size_toArray]; exact r.length.symm
  refine ⟨"tuple", _, PyProof.Rows.slot_tuple_getitem.lookup, ht.typeIs, ?_⟩
  refine HT.getItem_tuple_cut ht hs pl pu (by rw [hlen]; exact hw) ?_ (by rw [hlen]; exact hz)
  rw [hlen]
  refine ⟨.ref s.heap.objs.size, _, I.laid (t' := s.toks) (o := .tup (cutV xs lo hi)) (fun b ob q => Heap.get?_push_of_some _ q) (Nat.le_refl _) ?_, rfl, q _ (I.hok.fresh (Nat.le_refl _))⟩
  exact ⟨Nat.le_trans (cutV_length xs lo hi) hz, _, (r.drop (HT.sIx xs.length 0 lo)).take (HT.sIx xs.length xs.length hi - HT.sIx xs.length 0 lo), IsTup.new _ _⟩

/-! ### t < u, t + u -/
def rLtT (K : PySem.W.Frag) : R2 := fun x y H Q => ∃ a b ns ms, x = .ref a ∧ y = .ref b ∧ SqT K H a (ns.map V.int) ∧ SqT K H b (ms.map V.int) ∧ Q (.bl (HT.lexLt ns ms)) H
theorem op_ltT (hu : X.A.units < cLine) : OpR X (compareOp .Lt) (rLtT X.K) := by
  intro pins s σ H x y v u Q I rx ry h
  obtain ⟨a, b, ns, ms, rfl, rfl, ha, hb, q⟩ := h
  cases rx
  cases ry
  obtain ⟨its, r1, p1, _⟩ := I.tuple ha
  obtain ⟨its2, r2, p2, _⟩ := I.tuple hb
  have i1 : IntsAre its.toArray.toList ns := intsAre_of r1
  have i2 : IntsAre its2.toArray.toList ms := intsAre_of r2
  exact HT.lt_tupInts p1 p2 i1 i2 hu ⟨.bl (HT.lexLt ns ms), H, I, rfl, q⟩
/-- t + u, t not empty: u empty gives t itself -/
def rCatT (K : PySem.W.Frag) : R2 := fun x y H Q => ∃ a b xs ys, x = .ref a ∧ y = .ref b ∧ SqT K H a xs ∧ SqT K H b ys ∧ xs ≠ [] ∧ xs.length + ys.length ≤ sizeLine ∧
  (ys = [] → Q (.ref a) H) ∧ (ys ≠ [] → ∀ p, H p = none → Q (.ref p) (upd H p (.tup (xs ++ ys))))
theorem Vals.nil_iff {xs : List V} {us : List Value} (r : Vals xs us) : us = [] ↔ xs = [] := by
  cases r with
  | nil => simp
  | cons _ _ => simp
theorem op_catT : OpR X (binaryOp .Add) (rCatT X.K) := by
  intro pins s σ H x y v u Q I rx ry h
  obtain ⟨a, b, xs, ys, rfl, rfl, ha, hb, hx, hz, q1, q2⟩ := h
  cases rx
  cases ry
  obtain ⟨its, r1, p1, _⟩ := I.tuple ha
  obtain ⟨its2, r2, p2, _⟩ := I.tuple hb
  refine HT.cat_tup p1 p2 (fun z => hx (r1.nil_iff.mp z)) (fun z => ⟨.ref a, H, I, rfl, q1 (r2.nil_iff.mp z)⟩) (fun z => ?_) (by rw [← r1.length, ← r2.length]; exact hz)
  refine ⟨.ref s.heap.objs.size, _, I.laid (t' := s.toks) (o := .tup (xs ++ ys)) (fun b ob q => Heap.get?_push_of_some _ q) (Nat.le_refl _) ?_, rfl, q2 (fun w => z (r2.nil_iff.mpr w)) _ (I.hok.fresh (Nat.le_refl _))⟩
  exact ⟨by rw [List.length_append]; exact hz, _, r1.append r2, IsTup.new _ _⟩
/-- tuple(t) -/
theorem call_tupleT : CallR X (.type "tuple") (fun xs H Q => ∃ a ys, xs = [.ref a] ∧ SqT X.K H a ys ∧ Q (.ref a) H) := by
  intro pins s σ H xs us Q I r h
  obtain ⟨a, ys, rfl, ha, q⟩ := h
  obtain ⟨u, rfl, ru⟩ := vals1 r
  cases ru
  obtain ⟨its, _, p1, _⟩ := I.tuple ha
  exact call_tuple_same (items := its.toArray) p1 ⟨.ref a, H, I, rfl, q⟩
end
end L2

namespace L2
open PySem PySem.Spec PyProof.Rows

/-! ### places -/
/-- the place that an index of any sign means -/
def ixN (n : Nat) (i : Int) : Option Nat := if 0 ≤ i then (if i < n then some i.toNat else none) else if -(n : Int) ≤ i then some (i + n).toNat else none
def atI {α : Type} (xs : List α) (i : Int) : Option α := (ixN xs.length i).bind fun j => xs[j]?
theorem ixN_seq {n : Nat} {i : Int} {j : Nat} (h : ixN n i = some j) : seqIndex? i n = some j ∧ j < n ∧ -(n : Int) ≤ i ∧ i < n := by
  unfold ixN at h
  by_cases h0 : 0 ≤ i
  · rw [if_pos h0] at h
    by_cases h1 : i < n
    · rw [if_pos h1] at h
      have e : i.toNat = j := Option.some.inj h
      exact ⟨by rw [seqIndex_of h0 h1, e], by omega, by omega, h1⟩
    · rw [if_neg h1] at h; cases h
  · rw [if_neg h0] at h
    by_cases h1 : -(n : Int) ≤ i
    · rw [if_pos h1] at h
      have e : (i + n).toNat = j := Option.some.inj h
      exact ⟨by rw [seqIndex_neg (by omega) h1, e], by omega, h1, by omega⟩
    · rw [if_neg h1] at h; cases h
theorem atI_get {α : Type} {xs : List α} {i : Int} {v : α} (h : atI xs i = some v) : ∃ j, seqIndex? i xs.length = some j ∧ xs[j]? = some v ∧ j < xs.length ∧ -(xs.length : Int) ≤ i ∧ i < xs.length := by
  unfold atI at h
  cases e : ixN xs.length i with
  | none => rw [e] at h; cases h
  | some j =>
    rw [e] at h
    obtain ⟨h1, h2, h3, h4⟩ := ixN_seq e
    exact ⟨j, h1, h, h2, h3, h4⟩
theorem atI_nat {α : Type} {xs : List α} {j : Nat} {v : α} (h : xs[j]? = some v) : atI xs (j : Int) = some v := by
  have hj : j < xs.length := (List.getElem?_eq_some_iff.mp h).1
  have e : ixN xs.length (j : Int) = some j := by
    unfold ixN
    rw [if_pos (by omega), if_pos (by omega)]; simp
  unfold atI; rw [e]; exact h
theorem atI_last {α : Type} (xs : List α) (v : α) : atI (xs ++ [v]) (-1) = some v := by
  have hl : (xs ++ [v]).length = xs.length + 1 := by simp
  have e : ixN (xs ++ [v]).length (-1) = some xs.length := by
    unfold ixN
    rw [hl, if_neg (by decide), if_pos (by omega)]
    congr 1
    omega
  unfold atI
  rw [e]
  show (xs ++ [v])[xs.length]? = some v
  simp

/-! ### what may be subscripted -/
/-- what stands as an index of a plain subscript -/
def PlainIx (b : Expr) : Prop := ∀ o i, subscripted b false o i = operate [o, i] (getItem o i)
/-- a subscript by values -/
def IxR (X : Cx) (r : R2) : Prop :=
  ∀ (value slice : Expr) (pins : List (Addr × Obj)) (s : Shared) (σ : St) (H : Hp) (x y : V) (v u : Value) (Q : VK), Inv X pins σ H s → RelV x v → RelV y u → r x y H Q →
    subscripted slice false v u = operate [v, u] (getItem v u) → wpAny (model X.prog X.w) X.A (subscriptTail value slice v u) (EP X pins σ Q) X.xe s
/-- a call of a builtin's method by values: the receiver, the arguments -/
def MtR (X : Cx) (id : String) (r : V → List V → Hp → VK → Prop) : Prop :=
  ∀ (pins : List (Addr × Obj)) (s : Shared) (σ : St) (H : Hp) (x : V) (xs : List V) (v : Value) (us : List Value) (Q : VK), Inv X pins σ H s → RelV x v → Vals xs us → r x xs H Q →
    wpAny (model X.prog X.w) X.A (call (.builtin id) (v :: us)) (EP X pins σ Q) X.xe s
section
variable {X : Cx} {a b : Expr} {ta tb : TE} {pos : Pos}
theorem IxR.or {r r' : R2} (h : IxR X r) (h' : IxR X r') : IxR X (fun x y H Q => r x y H Q ∨ r' x y H Q) := by
  intro value slice pins s σ H x y v u Q I rx ry q hs
  rcases q with q | q
  · exact h value slice pins s σ H x y v u Q I rx ry q hs
  · exact h' value slice pins s σ H x y v u Q I rx ry q hs
theorem MtR.or {id : String} {r r' : V → List V → Hp → VK → Prop} (h : MtR X id r) (h' : MtR X id r') : MtR X id (fun x xs H Q => r x xs H Q ∨ r' x xs H Q) := by
  intro pins s σ H x xs v us Q I rx rs q
  rcases q with q | q
  · exact h pins s σ H x xs v us Q I rx rs q
  · exact h' pins s σ H x xs v us Q I rx rs q
/-- a[b] -/
theorem pe_ix {r : R2} (hr : IxR X r) (ha : PE X a ta) (hb : PE X b tb) (hs : PlainIx b) : PE X (.Subscript a b pos) (tOp r ta tb) := by
  intro pins s σ H Q I h
  exact Subscript_ (binT ha hb I h fun v u s2 x y H2 I2 rx ry q => hr a b pins s2 σ H2 x y v u Q I2 rx ry q (hs _ _))

def rIxL (K : PySem.W.Frag) : R2 := fun x y H Q => ∃ p xs i v, x = .ref p ∧ y = .int i ∧ SqL K H p xs ∧ atI xs i = some v ∧ Q v H
def rIxT (K : PySem.W.Frag) : R2 := fun x y H Q => ∃ p xs i v, x = .ref p ∧ y = .int i ∧ SqT K H p xs ∧ atI xs i = some v ∧ Q v H
def rIxS : R2 := fun x y H Q => ∃ z i c, x = .str z ∧ y = .int i ∧ z.length ≤ sizeLine ∧ atI z.cps.toList i = some c ∧ Q (.str ⟨#[c]⟩) H
theorem ix_list : IxR X (rIxL X.K) := by
  intro value slice pins s σ H x y v u Q I rx ry h hs
  obtain ⟨p, xs, i, z, rfl, rfl, hq, he, q⟩ := h
  cases rx
  obtain ⟨t, rfl⟩ := ry
  obtain ⟨its, r, pl, hz⟩ := I.list hq
  obtain ⟨j, h1, h2, h3, h4, h5⟩ := atI_get he
  obtain ⟨w, ew, rw'⟩ := r.get h2
  have hl := r.length
  have hn := line63
  have fin : EP X pins σ Q w s := ⟨z, H, I, rw', q⟩
  by_cases h0 : 0 ≤ i
  · have hj : i.toNat = j := by
      rw [seqIndex_of h0 h5] at h1
      exact Option.some.inj h1
    exact item_listR pl.isList h0 (by omega) (by rw [hj]; simpa using ew) fin hs
  · have hj : (i + (its.toArray.size : Int)).toNat = j := by
      rw [seqIndex_neg (by omega) h4] at h1
      rw [List.size_toArray, ← hl]
      exact Option.some.inj h1
    exact subscriptTail_builtinR (x := w) pl.isList.typeIs slot_list_getitem.lookup
      (wpAny_getItem_list_neg (Q := fun r s' => r = w ∧ EP X pins σ Q r s') pl.isList (by omega) (by rw [List.size_toArray] <;> omega) (by omega) (by rw [hj]; simpa using ew) ⟨rfl, fin⟩) hs
theorem ix_tup : IxR X (rIxT X.K) := by
  intro value slice pins s σ H x y v u Q I rx ry h hs
  obtain ⟨p, xs, i, z, rfl, rfl, hq, he, q⟩ := h
  cases rx
  obtain ⟨t, rfl⟩ := ry
  obtain ⟨its, r, pl, hz⟩ := I.tuple hq
  obtain ⟨j, h1, h2, h3, h4, h5⟩ := atI_get he
  obtain ⟨w, ew, rw'⟩ := r.get h2
  have hl := r.length
  have hn := line63
  have fin : EP X pins σ Q w s := ⟨z, H, I, rw', q⟩
  exact subscriptTail_builtinR (x := w) pl.typeIs slot_tuple_getitem.lookup
    (getItem_tuple (j := j) (Q := fun r s' => r = w ∧ EP X pins σ Q r s') pl (by omega) (by omega) (by rw [List.size_toArray, ← hl]; exact h1) (by simpa using ew) ⟨rfl, fin⟩) hs
theorem ix_str : IxR X rIxS := by
  intro value slice pins s σ H x y v u Q I rx ry h hs
  obtain ⟨z, i, c, rfl, rfl, hz, he, q⟩ := h
  obtain ⟨t, rfl⟩ := rx
  obtain ⟨t', rfl⟩ := ry
  obtain ⟨j, h1, h2, h3, h4, h5⟩ := atI_get he
  have hl : z.cps.toList.length = z.length := by simp [Str.length]
  rw [hl] at h1 h4 h5
  have hn := line63
  exact tail_any (typeIs_str s z t) slot_str_getitem.lookup (getItem_str (c := c) (by
    have e1 : decide (i < -(2 ^ 63 : Int)) = false := decide_eq_false (by omega)
    have e2 : decide (i ≥ 2 ^ 63) = false := decide_eq_false (by omega)
    rw [e1, e2, Bool.or_false]) (by rw [h1]; simpa using h2) ⟨.str ⟨#[c]⟩, H, I.tok _, ⟨_, rfl⟩, q⟩) hs
/-- list, tuple or str -/
def rIx (K : PySem.W.Frag) : R2 := fun x y H Q => rIxL K x y H Q ∨ rIxT K x y H Q ∨ rIxS x y H Q
theorem ix_seq : IxR X (rIx X.K) := ix_list.or (ix_tup.or ix_str)

/-! ### xs[i] = v, any sign -/
/-- the list's object behind a store -/
theorem mapSeq_set (its : List Value) (n j : Nat) (u : Value) : Obj.mapSeq (·.setIfInBounds j u) { cls := .type "list", data := .seq its.toArray n } = { cls := .type "list", data := .seq (its.set j u).toArray n } := by
  simp [Obj.mapSeq]
theorem Inv.lst {pins : List (Addr × Obj)} {σ : St} {H : Hp} {s : Shared} {p : Addr} {xs : List V} (I : Inv X pins σ H s) (h : H p = some (.lst xs)) :
    ∃ (its : List Value) (n : Nat), Vals xs its ∧ s.heap.get? p = some { cls := .type "list", data := .seq its.toArray n } ∧ xs.length ≤ sizeLine := by
  obtain ⟨z, its, n, r, e⟩ := I.hok p _ h
  exact ⟨its, n, r, e, z⟩
/-- the list at p is written by an update of its object -/
theorem Inv.lstUpd {pins : List (Addr × Obj)} {σ : St} {H : Hp} {s : Shared} {p : Addr} {xs ys : List V} {its its' : List Value} {n n' : Nat} {f : Obj → Obj} (I : Inv X pins σ H s) (h : H p = some (.lst xs))
    (ho : s.heap.get? p = some { cls := .type "list", data := .seq its.toArray n }) (hf : f { cls := .type "list", data := .seq its.toArray n } = { cls := .type "list", data := .seq its'.toArray n' }) (r : Vals ys its') (hz : ys.length ≤ sizeLine) (t : Nat) :
    Inv X pins σ (upd H p (.lst ys)) { s with heap := s.heap.update p f, toks := t } := by
  have e : (s.heap.update p f).get? p = some { cls := .type "list", data := .seq its'.toArray n' } := by
    rw [Heap.get?_update_self f ho (by rw [hf] <;> rfl), hf]
  refine I.write (x := p) (e := p) (by rw [h]; trivial) (.inl rfl) (fun b u hb q => (Heap.get?_update_other _ _ (Ne.symm hb)).trans q) ⟨_, e⟩ ?_
  exact ⟨hz, its', n', r, e⟩
def rSetL : V → V → V → Hp → (Hp → Prop) → Prop := fun o i v H Q => ∃ p xs k j, o = .ref p ∧ i = .int k ∧ H p = some (.lst xs) ∧ ixN xs.length k = some j ∧ Q (upd H p (.lst (xs.set j v)))
theorem set_list : PSet X rSetL := by
  intro pins s σ H o i v ov iv u Q I ro ri rv h
  obtain ⟨p, xs, k, j, rfl, rfl, hp, hj, q⟩ := h
  cases ro
  obtain ⟨t, rfl⟩ := ri
  obtain ⟨its, n, r, ho, hz⟩ := I.lst hp
  obtain ⟨h1, h2, h3, h4⟩ := ixN_seq hj
  have hl := r.length
  have hn := line63
  have I' : Inv X pins σ (upd H p (.lst (xs.set j v))) { s with heap := s.heap.update p (Obj.mapSeq (·.setIfInBounds j u)) } :=
    I.lstUpd hp ho (mapSeq_set its n j u) (r.set rv j) (by rw [List.length_set]; exact hz) s.toks
  by_cases h0 : 0 ≤ k
  · have hk : k.toNat = j := by
      rw [seqIndex_of h0 h4] at h1
      exact Option.some.inj h1
    exact PySem.W.ki_setAt ho h0 (by omega) (by rw [List.size_toArray, ← hl]; exact h4) (by rw [hk]; exact ⟨_, I', q⟩)
  · have hk : (k + (its.toArray.size : Int)).toNat = j := by
      rw [seqIndex_neg (by omega) h3] at h1
      rw [List.size_toArray, ← hl]
      exact Option.some.inj h1
    exact PySem.W.ki_setBack ho (by omega) (by rw [List.size_toArray, ← hl]; exact h3) (by omega) (by rw [hk]; exact ⟨_, I', q⟩)

/-! ### slices -/
theorem slice_bounds (lo hi : Option Int) (n : Nat) : (sliceBounds lo hi none n).1 = ((HT.sIx n 0 lo : Nat) : Int) ∧ (sliceBounds lo hi none n).2.1 = ((HT.sIx n n hi : Nat) : Int) ∧ (sliceBounds lo hi none n).2.2 = 1 := by
  refine ⟨?_, ?_, rfl⟩
  · cases lo with
    | none => simp [sliceBounds, HT.sIx]
    | some i =>
      simp only [sliceBounds, HT.sIx, Option.getD_none, show (1 : Int) > 0 by decide, if_true]
      by_cases h : i < 0
      · simp only [h, if_true] <;> omega
      · simp only [h, if_false] <;> omega
  · cases hi with
    | none => simp [sliceBounds, HT.sIx]
    | some i =>
      simp only [sliceBounds, HT.sIx, Option.getD_none, show (1 : Int) > 0 by decide, if_true]
      by_cases h : i < 0
      · simp only [h, if_true] <;> omega
      · simp only [h, if_false] <;> omega
theorem slicePick_cut (its : List Value) (lo hi : Option Int) : slicePick its.toArray lo hi none = ((its.drop (HT.sIx its.length 0 lo)).take (HT.sIx its.length its.length hi - HT.sIx its.length 0 lo)).toArray := by
  obtain ⟨h1, h2, h3⟩ := slice_bounds lo hi its.toArray.size
  unfold slicePick
  rw [h1, h2, h3]
  simp only [sliceRange_one, pick_run, List.size_toArray] <;> rfl
/-- xs[lo:hi] of a list: a new list -/
def rSlL (K : PySem.W.Frag) : V → Option Int → Option Int → Hp → VK → Prop := fun x lo hi H Q => ∃ a xs, x = .ref a ∧ SqL K H a xs ∧ ∀ p, H p = none → Q (.ref p) (upd H p (.lst (cutV xs lo hi)))
theorem sl_list : SlR X (rSlL X.K) := by
  intro pins s σ H x v vl vu lo hi sl Q I rx hs pl pu h
  obtain ⟨a, xs, rfl, hx, q⟩ := h
  cases rx
  obtain ⟨its, r, ht, hz⟩ := I.list hx
  have hlen := r.length
  refine ⟨"list", _, slot_list_getitem.lookup, ht.isList.typeIs, ?_⟩
  refine wpAny_getItem_list_slice ht.isList hs pl pu .none (by simp) ?_ (by rw [List.size_toArray] <;> omega)
  rw [slicePick_cut, ← hlen]
  refine ⟨.ref s.heap.objs.size, _, I.laid (t' := s.toks) (o := .lst (cutV xs lo hi)) (fun b ob q => Heap.get?_push_of_some _ q) (Nat.le_refl _) ?_, rfl, q _ (I.hok.fresh (Nat.le_refl _))⟩
  exact ⟨Nat.le_trans (cutV_length xs lo hi) hz, _, 0, (r.drop (HT.sIx xs.length 0 lo)).take (HT.sIx xs.length xs.length hi - HT.sIx xs.length 0 lo), Heap.get?_push_size _ rfl⟩

/-! ### in, not in: flat items -/
def flatV : V → Bool
  | .non => true
  | .bl _ => true
  | .int _ => true
  | .str _ => true
  | _ => false
/-- == of flat values -/
def eqV : V → V → Bool
  | .non, .non => true
  | .bl a, .bl b => a == b
  | .bl a, .int b => (if a then 1 else 0) == b
  | .int a, .bl b => a == (if b then 1 else 0)
  | .int a, .int b => a == b
  | .str a, .str b => a == b
  | _, _ => false
theorem eqAt_V {A : Around} {s : Shared} {y x : V} {u v : Value} (ry : RelV y u) (rx : RelV x v) (fy : flatV y = true) (fx : flatV x = true) : SeqAt.EqAt A s u v (eqV y x) := by
  cases y with
  | non =>
    cases ry
    cases x with
    | non => cases rx; exact SeqAt.EqAt.same _
    | bl b => cases rx; exact SeqAt.EqAt.none_bool b
    | int b => obtain ⟨t, rfl⟩ := rx; exact SeqAt.EqAt.none_int b t
    | str b => obtain ⟨t, rfl⟩ := rx; exact SeqAt.EqAt.none_str b t
    | _ => exact absurd (show false = true from fx) Bool.false_ne_true
  | bl a =>
    cases ry
    cases x with
    | non => cases rx; exact SeqAt.EqAt.bool_none a
    | bl b => cases rx; exact SeqAt.EqAt.bool_bool a b
    | int b => obtain ⟨t, rfl⟩ := rx; exact SeqAt.EqAt.bool_int a b t
    | str b => obtain ⟨t, rfl⟩ := rx; exact SeqAt.EqAt.bool_str a b t
    | _ => exact absurd (show false = true from fx) Bool.false_ne_true
  | int a =>
    obtain ⟨t', rfl⟩ := ry
    cases x with
    | non => cases rx; exact SeqAt.EqAt.int_none a t'
    | bl b => cases rx; exact SeqAt.EqAt.int_bool a t' b
    | int b => obtain ⟨t, rfl⟩ := rx; exact SeqAt.EqAt.int_int a t' b t
    | str b => obtain ⟨t, rfl⟩ := rx; exact SeqAt.EqAt.int_str a t' b t
    | _ => exact absurd (show false = true from fx) Bool.false_ne_true
  | str a =>
    obtain ⟨t', rfl⟩ := ry
    cases x with
    | non => cases rx; exact SeqAt.EqAt.str_none a t'
    | bl b => cases rx; exact SeqAt.EqAt.str_bool a t' b
    | int b => obtain ⟨t, rfl⟩ := rx; exact SeqAt.EqAt.str_int a t' b t
    | str b => obtain ⟨t, rfl⟩ := rx; exact SeqAt.EqAt.str_str a t' b t
    | _ => exact absurd (show false = true from fx) Bool.false_ne_true
  | _ => exact absurd (show false = true from fy) Bool.false_ne_true
/-- the items' answers, read off the values (a value's own answer does not lean on its token) -/
def eqU (x : V) (u : Value) : Bool := match u with
  | .none => eqV .non x
  | .bool b => eqV (.bl b) x
  | .int i _ => eqV (.int i) x
  | .str z _ => eqV (.str z) x
  | _ => false
theorem eqU_of {x y : V} {u : Value} (r : RelV y u) (f : flatV y = true) : eqU x u = eqV y x := by
  cases y with
  | non => cases r; rfl
  | bl b => cases r; rfl
  | int i => obtain ⟨t, rfl⟩ := r; rfl
  | str z => obtain ⟨t, rfl⟩ := r; rfl
  | _ => exact absurd (show false = true from f) Bool.false_ne_true
theorem any_eqU {x : V} : ∀ {xs : List V} {us : List Value}, Vals xs us → xs.all flatV = true → us.any (eqU x) = xs.any fun y => eqV y x
  | _, _, .nil, _ => rfl
  | y :: xs, u :: us, .cons r t, f => by
    rw [List.all_cons, Bool.and_eq_true] at f
    rw [List.any_cons, List.any_cons, eqU_of r f.1, any_eqU t f.2]
theorem mem_eqAt {A : Around} {s : Shared} {x : V} {v : Value} (rx : RelV x v) (fx : flatV x = true) : ∀ {xs : List V} {us : List Value}, Vals xs us → xs.all flatV = true → ∀ u ∈ us, SeqAt.EqAt A s u v (eqU x u)
  | _, _, .nil, _ => fun u hu => by cases hu
  | y :: xs, u :: us, .cons r t, f => fun u' hu => by
    rw [List.all_cons, Bool.and_eq_true] at f
    rcases List.mem_cons.mp hu with rfl | hu
    · rw [eqU_of r f.1]; exact eqAt_V r rx f.1 fx
    · exact mem_eqAt rx fx t f.2 u' hu
def inV (x : V) (xs : List V) : Bool := xs.any fun y => eqV y x
/-- x in a list or tuple of flat items -/
def rIn (K : PySem.W.Frag) (neg : Bool) : R2 := fun x y H Q => ∃ p xs, y = .ref p ∧ (SqL K H p xs ∨ SqT K H p xs) ∧ flatV x = true ∧ xs.all flatV = true ∧ Q (.bl (if neg then !inV x xs else inV x xs)) H
theorem op_in_seq : OpR X (compareOp .In) (rIn X.K false) := by
  intro pins s σ H x y v u Q I rx ry h
  obtain ⟨p, xs, rfl, hq, fx, fs, q⟩ := h
  cases ry
  rcases hq with hq | hq
  · obtain ⟨its, r, pl, hz⟩ := I.list hq
    refine SeqAt.in_listAt (eqU x) pl.isList (fun w hw => mem_eqAt rx fx r fs w (by simpa using hw)) ⟨.bl _, H, I, rfl, ?_⟩
    rw [show its.toArray.any (eqU x) = its.any (eqU x) by simp, any_eqU r fs]
    exact q
  · obtain ⟨its, r, pl, hz⟩ := I.tuple hq
    refine SeqAt.in_tupleAt (eqU x) pl (fun w hw => mem_eqAt rx fx r fs w (by simpa using hw)) ⟨.bl _, H, I, rfl, ?_⟩
    rw [show its.toArray.any (eqU x) = its.any (eqU x) by simp, any_eqU r fs]
    exact q
theorem op_notIn_seq : OpR X (compareOp .NotIn) (rIn X.K true) := by
  intro pins s σ H x y v u Q I rx ry h
  obtain ⟨p, xs, rfl, hq, fx, fs, q⟩ := h
  cases ry
  rcases hq with hq | hq
  · obtain ⟨its, r, pl, hz⟩ := I.list hq
    refine SeqAt.notIn_listAt (eqU x) pl.isList (fun w hw => mem_eqAt rx fx r fs w (by simpa using hw)) ⟨.bl _, H, I, rfl, ?_⟩
    rw [show its.toArray.any (eqU x) = its.any (eqU x) by simp, any_eqU r fs]
    exact q
  · obtain ⟨its, r, pl, hz⟩ := I.tuple hq
    refine SeqAt.notIn_tupleAt (eqU x) pl (fun w hw => mem_eqAt rx fx r fs w (by simpa using hw)) ⟨.bl _, H, I, rfl, ?_⟩
    rw [show its.toArray.any (eqU x) = its.any (eqU x) by simp, any_eqU r fs]
    exact q
theorem op_notIn_str : OpR X (compareOp .NotIn) (fun x y H Q => ∃ i j, x = .str i ∧ y = .str j ∧ Q (.bl (!(!(Builtin.Str.occurrences j i 0 j.length 1).isEmpty))) H) := by
  intro pins s σ H x y v u Q I rx ry h
  obtain ⟨i, j, rfl, rfl, q⟩ := h
  obtain ⟨t, rfl⟩ := rx
  obtain ⟨t', rfl⟩ := ry
  exact notIn_str ⟨.bl _, H, I, rfl, q⟩

/-! ### len, list(x), tuple(x) of any list or tuple that is read -/
theorem call_len_seq : CallR X (.builtin "len") (fun xs H Q => ∃ p ys, xs = [.ref p] ∧ (SqL X.K H p ys ∨ SqT X.K H p ys) ∧ Q (.int ys.length) H) := by
  intro pins s σ H xs us Q I r h
  obtain ⟨p, ys, rfl, hq, q⟩ := h
  obtain ⟨u, rfl, rx⟩ := vals1 r
  cases rx
  have hn := line63
  rcases hq with hq | hq
  · obtain ⟨its, r', pl, hz⟩ := I.list hq
    have hlen := r'.length
    exact Calls.call_len_list pl.isList (by simp only [List.size_toArray] <;> omega) ⟨.int ys.length, H, I.tok _, ⟨s.toks + 1, by rw [List.size_toArray, hlen]⟩, q⟩
  · obtain ⟨its, r', pl, hz⟩ := I.tuple hq
    have hlen := r'.length
    exact len_tuple pl (by simp only [List.size_toArray] <;> omega) ⟨.int ys.length, H, I.tok _, ⟨s.toks + 1, by rw [List.size_toArray, hlen]⟩, q⟩
theorem call_len_str : CallR X (.builtin "len") (fun xs H Q => ∃ z, xs = [.str z] ∧ z.length ≤ sizeLine ∧ Q (.int z.length) H) := by
  intro pins s σ H xs us Q I r h
  obtain ⟨z, rfl, hz, q⟩ := h
  obtain ⟨u, rfl, t, rfl⟩ := vals1 r
  have hn := line63
  exact len_str (by omega) ⟨.int z.length, H, I.tok _, ⟨_, rfl⟩, q⟩
theorem CallR.or {f : Value} {r r' : List V → Hp → VK → Prop} (h : CallR X f r) (h' : CallR X f r') : CallR X f (fun xs H Q => r xs H Q ∨ r' xs H Q) := by
  intro pins s σ H xs us Q I rs q
  rcases q with q | q
  · exact h pins s σ H xs us Q I rs q
  · exact h' pins s σ H xs us Q I rs q
theorem call_list_of : CallR X (.type "list") (fun xs H Q => ∃ p ys, xs = [.ref p] ∧ (SqL X.K H p ys ∨ SqT X.K H p ys) ∧ ∀ l, H l = none → Q (.ref l) (upd H l (.lst ys))) := by
  intro pins s σ H xs us Q I r h
  obtain ⟨p, ys, rfl, hq, q⟩ := h
  obtain ⟨u, rfl, rx⟩ := vals1 r
  cases rx
  have fin : ∀ (its : List Value), Vals ys its → ys.length ≤ sizeLine → ∀ (h' : Heap) (c' : Nat), (∀ b o', s.heap.get? b = some o' → h'.get? b = some o') →
      h'.get? s.heap.objs.size = some { cls := .type "list", dict := none, data := .seq its.toArray c', slots := #[] } → EP X pins σ Q (.ref s.heap.objs.size) { s with heap := h' } := fun its r' hz h' c' kp e =>
    ⟨.ref s.heap.objs.size, _, I.laid (t' := s.toks) kp (Nat.le_refl _) (show ObjOk X.prog X.w _ h' _ (.lst ys) from ⟨hz, its, c', r', e⟩), rfl, q _ (I.hok.fresh (Nat.le_refl _))⟩
  rcases hq with hq | hq
  · obtain ⟨its, r', pl, hz⟩ := I.list hq
    have hlen := r'.length
    obtain ⟨o, ho, hc, n, hd⟩ := pl.isList
    exact call_list_seq p (.inl rfl) ho hc hd (fun h' c' kp e => fin its r' hz h' c' kp e) (by simp only [List.size_toArray] <;> omega)
  · obtain ⟨its, r', pl, hz⟩ := I.tuple hq
    have hlen := r'.length
    obtain ⟨o, ho, hc, n, hd⟩ := pl
    exact call_list_seq p (.inr rfl) ho hc hd (fun h' c' kp e => fin its r' hz h' c' kp e) (by simp only [List.size_toArray] <;> omega)
theorem call_tuple_of : CallR X (.type "tuple") (fun xs H Q => ∃ p ys, xs = [.ref p] ∧ ((SqL X.K H p ys ∧ ∀ l, H l = none → Q (.ref l) (upd H l (.tup ys))) ∨ (SqT X.K H p ys ∧ Q (.ref p) H))) := by
  intro pins s σ H xs us Q I r h
  obtain ⟨p, ys, rfl, h⟩ := h
  obtain ⟨u, rfl, rx⟩ := vals1 r
  cases rx
  rcases h with ⟨hq, q⟩ | ⟨hq, q⟩
  · obtain ⟨its, r', pl, hz⟩ := I.list hq
    have hlen := r'.length
    refine call_tuple_list pl.isList (fun h' kp => ?_) (by simp only [List.size_toArray] <;> omega)
    have I1 : Inv X pins σ H { s with heap := h' } := I.kept (t' := s.toks) kp
    have I2 : Inv X pins σ (upd H h'.objs.size (.tup ys)) { s with heap := h'.push { cls := .type "tuple", data := .seq its.toArray } } :=
      I1.laid (t' := s.toks) (fun b o e => Heap.get?_push_of_some _ e) (Nat.le_refl _) (show ObjOk X.prog X.w _ _ _ (.tup ys) from ⟨hz, its, r', IsTup.new _ _⟩)
    exact ⟨.ref h'.objs.size, _, I2, rfl, q _ (I1.hok.fresh (Nat.le_refl _))⟩
  · obtain ⟨its, r', pl, hz⟩ := I.tuple hq
    exact call_tuple_same pl ⟨.ref p, H, I, rfl, q⟩

/-! ### the call of a builtin's method: o.m(..) -/
/-- the value is of that builtin type -/
def tyV (K : PySem.W.Frag) (T : String) (x : V) (H : Hp) : Prop := match x with
  | .str _ => T = "str"
  | .int _ => T = "int"
  | .ref p => (T = "list" ∧ ∃ xs, SqL K H p xs) ∨ (T = "tuple" ∧ ∃ o, K.lookup p = some o ∧ o.cls = .type "tuple" ∧ o.dict = none) ∨
      (T = "dict" ∧ ((∃ kvs, H p = some (.dK kvs)) ∨ ∃ kvs, H p = some (.dT kvs))) ∨ (T = "set" ∧ ∃ S n, H p = some (.set S n))
  | _ => False
theorem tyV_is {pins : List (Addr × Obj)} {σ : St} {H : Hp} {s : Shared} {T : String} {x : V} {v : Value} (I : Inv X pins σ H s) (r : RelV x v) (ty : tyV X.K T x H) :
    s.TypeIs v T ∧ ∀ a, v = .ref a → ∃ ob, s.heap.get? a = some ob ∧ ob.dict = none := by
  cases x with
  | str z =>
    obtain ⟨t, rfl⟩ := r
    cases (show T = "str" from ty)
    exact ⟨typeIs_str s z t, fun _ e => nomatch e⟩
  | int i =>
    obtain ⟨t, rfl⟩ := r
    cases (show T = "int" from ty)
    exact ⟨typeIs_int s i t, fun _ e => nomatch e⟩
  | ref p =>
    cases r
    rcases ty with ⟨rfl, xs, hq⟩ | ⟨rfl, o, hk, hc, hd⟩ | ⟨rfl, hk⟩ | ⟨rfl, S, n, hk⟩
    · obtain ⟨its, _, pl, _⟩ := I.list hq
      refine ⟨pl.isList.typeIs, fun a e => ?_⟩
      cases e
      obtain ⟨o, n, e, c, hd, _⟩ := pl
      exact ⟨o, e, hd⟩
    · refine ⟨⟨o, I.kIn p o hk, hc⟩, fun a e => ?_⟩
      cases e
      exact ⟨o, I.kIn _ o hk, hd⟩
    · have z : ∃ o, s.heap.get? p = some o ∧ o.ExactDict := by
        rcases hk with ⟨kvs, hk⟩ | ⟨kvs, hk⟩
        · obtain ⟨_, _, _, _, o, _, _, e, ex, _⟩ := I.hok p _ hk
          exact ⟨o, e, ex⟩
        · obtain ⟨_, _, _, _, o, _, _, e, ex, _⟩ := I.hok p _ hk
          exact ⟨o, e, ex⟩
      obtain ⟨o, e, ex⟩ := z
      refine ⟨⟨o, e, ex.1⟩, fun a e2 => ?_⟩
      cases e2
      exact ⟨o, e, ex.2.1⟩
    · obtain ⟨o, _, _, _, e, ex, _⟩ := I.hok p _ hk
      refine ⟨⟨o, e, ex.1⟩, fun a e2 => ?_⟩
      cases e2
      exact ⟨o, e, ex.2.1⟩
  | _ => exact False.elim ty
def tBM0 (K : PySem.W.Frag) (T : String) (r : V → List V → Hp → VK → Prop) (to : TE) : TE := fun σ H Q => to σ H fun x H1 => tyV K T x H1 ∧ r x [] H1 Q
def tBM (K : PySem.W.Frag) (T : String) (r : V → List V → Hp → VK → Prop) (to : TE) (t : TA) : TE := fun σ H Q => to σ H fun x H1 => tyV K T x H1 ∧ t σ H1 fun xs H2 => r x xs H2 Q
variable {o e : Expr} {es : List Expr} {to : TE} {t : TA} {name : Str} {apos cpos : Pos} {T id : String} {r : V → List V → Hp → VK → Prop}
theorem pe_bm0 (pa : PlainAttrs T) (slot : Slot T name id) (hty : typeOf (.builtin id) = pure (.type "method_descriptor")) (hm : MtR X id r) (ho : PE X o to)
    (hbase : attributeBase o name X.env (eval o X.env) = eval o X.env := by rfl) (hline : (apos.endLine == cpos.line) = true := by rfl) : PE X (.Call (.Attribute o name apos) [] [] cpos) (tBM0 X.K T r to) := by
  intro pins s σ H Q I h
  refine wpAny_Call_method0_late hbase hline (thn (ho pins s σ H _ I h) fun v s1 ⟨x, H1, I1, r1, ty, q1⟩ => ?_)
  obtain ⟨h1, h2⟩ := tyV_is I1 r1 ty
  exact ⟨T, id, pa, slot, hty, h1, h2, Calls.callWith_builtin rfl (PySem.evalArgs_none (hm pins s1 σ H1 x [] v [] Q I1 r1 .nil q1))⟩
theorem pe_bm (pa : PlainAttrs T) (slot : Slot T name id) (hty : typeOf (.builtin id) = pure (.type "method_descriptor")) (hm : MtR X id r) (ho : PE X o to) (ha : PA X (e :: es) t)
    (hbase : attributeBase o name X.env (eval o X.env) = eval o X.env := by rfl)
    (hfew : ((backTo cpos (starEach (e :: es) X.env)).all (fun x => !x.1) && (backToKw cpos (keywordEach [] X.env)).all (fun x => x.1.isSome)
      && decide ((e :: es).length + ([] : List Keyword).length + (if ([] : List Keyword).isEmpty then 0 else 1) < 30)) = true := by rfl)
    (hline : (apos.endLine == cpos.line) = true := by rfl) (hs : starEach (e :: es) X.env = (false, eval e X.env) :: starEach es X.env := by rfl) (hplain : (backTo cpos (starEach es X.env)).any (·.1) = false := by rfl) :
    PE X (.Call (.Attribute o name apos) (e :: es) [] cpos) (tBM X.K T r to t) := by
  intro pins s σ H Q I h
  refine wpAny_Call_method_late hbase hfew hline rfl (thn (ho pins s σ H _ I h) fun v s1 ⟨x, H1, I1, r1, ty, q1⟩ => ?_)
  obtain ⟨h1, h2⟩ := tyV_is I1 r1 ty
  refine ⟨T, id, pa, slot, hty, h1, h2, ?_⟩
  have hA := ha cpos pins s1 σ H1 _ I1 q1
  rw [hs] at hA ⊢
  refine Calls.callWith_builtin (by show (false || (backTo cpos (starEach es X.env)).any (·.1)) = false; rw [hplain] <;> rfl) (Calls.evalArgs_plain ?_)
  exact thn hA fun us s2 ⟨vs, H2, I2, r2, q2⟩ => hm pins s2 σ H2 x vs v us Q I2 r1 r2 q2
/- xs.append(e), list.index on a module's tuple .. are MtR facts of 06m -/
end
end L2

namespace L2
open PySem PySem.Spec PyProof.Rows

def MtM (X : Cx) (id : String) (r : V → List V → Hp → VK → Prop) : Prop :=
  ∀ (pins : List (Addr × Obj)) (s : Shared) (σ : St) (H : Hp) (x : V) (xs : List V) (v : Value) (us : List Value) (Q : VK), Inv X pins σ H s → RelV x v → Vals xs us → r x xs H Q →
    wpAny (model X.prog X.w) X.A (call (.builtin id) (v :: us)) (EP X pins σ Q) X.xe s

/-! ### lists of values -/
theorem Vals.one : ∀ {x : V} {us : List Value}, Vals [x] us → ∃ u, us = [u] ∧ RelV x u
  | _, _, .cons r .nil => ⟨_, rfl, r⟩
theorem Vals.two : ∀ {x y : V} {us : List Value}, Vals [x, y] us → ∃ u v, us = [u, v] ∧ RelV x u ∧ RelV y v
  | _, _, _, .cons r (.cons q .nil) => ⟨_, _, rfl, r, q⟩
theorem Vals.zero : ∀ {us : List Value}, Vals [] us → us = []
  | _, .nil => rfl
theorem Vals.dropLast {xs : List V} {us : List Value} (h : Vals xs us) : Vals xs.dropLast us.dropLast := by
  induction h with
  | nil => exact .nil
  | cons r t ih =>
    cases t with
    | nil => exact .nil
    | cons q t' => exact .cons r ih
theorem Vals.eraseIdx : ∀ {xs : List V} {us : List Value} (i : Nat), Vals xs us → Vals (xs.eraseIdx i) (us.eraseIdx i)
  | _, _, _, .nil => .nil
  | _, _, 0, .cons _ t => t
  | _, _, i + 1, .cons r t => .cons r (Vals.eraseIdx i t)
theorem Vals.reverse {xs : List V} {us : List Value} (h : Vals xs us) : Vals xs.reverse us.reverse := by
  induction h with
  | nil => exact .nil
  | cons r t ih => rw [List.reverse_cons, List.reverse_cons]; exact Vals.append ih (.cons r .nil)
theorem Vals.rep {xs : List V} {us : List Value} (h : Vals xs us) : ∀ k : Nat, Vals (List.replicate k xs).flatten (List.replicate k us).flatten
  | 0 => .nil
  | k + 1 => by
    rw [List.replicate_succ, List.replicate_succ, List.flatten_cons, List.flatten_cons]
    exact Vals.append h (Vals.rep h k)
theorem erase_last {α : Type} (l : List α) : l.eraseIdx (l.length - 1) = l.dropLast := by
  induction l with
  | nil => rfl
  | cons a r ih =>
    cases r with
    | nil => rfl
    | cons b r =>
      have e : (a :: b :: r).length - 1 = ((b :: r).length - 1) + 1 := by
        have h1 : (a :: b :: r).length = r.length + 2 := rfl
        have h2 : (b :: r).length = r.length + 1 := rfl
        omega
      rw [e, List.eraseIdx_cons_succ, ih]
      all_goals rfl
theorem len_erase {α : Type} : ∀ (l : List α) (i : Nat), (l.eraseIdx i).length ≤ l.length
  | [], _ => Nat.le_refl _
  | _ :: _, 0 => Nat.le_succ _
  | _ :: r, i + 1 => Nat.succ_le_succ (len_erase r i)
theorem foldl_rep (its : List Value) : ∀ (k : Nat) (acc : List Value),
    List.foldl (fun x1 x2 => x1 ++ x2) acc.toArray (List.replicate k its.toArray) = (acc ++ (List.replicate k its).flatten).toArray
  | 0, acc => by simp
  | k + 1, acc => by
    have e : acc.toArray ++ its.toArray = (acc ++ its).toArray := by simp
    have e2 : (acc ++ its) ++ (List.replicate k its).flatten = acc ++ (List.replicate (k + 1) its).flatten := by
      rw [List.replicate_succ, List.flatten_cons, List.append_assoc]
    rw [← e2, ← foldl_rep its k (acc ++ its), ← e, List.replicate_succ, List.foldl_cons]

section
variable {X : Cx} {pins : List (Addr × Obj)} {σ : St} {H : Hp} {s : Shared} {l b : Addr} {xs ys zs : List V}

/-! ### the two steps: a tracked list is rewritten, a new list is laid -/
theorem Inv.lset {its its' : List Value} {n : Nat} {f : Array Value → Array Value} {t' : Nat} (I : Inv X pins σ H s) (hH : H l = some (.lst xs))
    (e : s.heap.get? l = some { cls := .type "list", data := .seq its.toArray n }) (hf : f its.toArray = its'.toArray) (hv : Vals ys its') (hz : ys.length ≤ sizeLine) :
    Inv X pins σ (upd H l (.lst ys)) { s with heap := s.heap.update l (Obj.mapSeq f), toks := t' } := by
  have q := PySem.IsL.update e f
  rw [hf] at q
  refine I.write (x := l) (e := l) (by rw [hH]; exact trivial) (.inl rfl) (fun b' u hb hu => (Heap.get?_update_other s.heap (Obj.mapSeq f) (Ne.symm hb)).trans hu) ⟨_, q⟩ ?_
  exact ⟨hz, its', _, hv, q⟩
theorem Inv.lnew {its : List Value} {t' : Nat} (I : Inv X pins σ H s) (hv : Vals ys its) (hz : ys.length ≤ sizeLine) :
    Inv X pins σ (upd H s.heap.objs.size (.lst ys)) { s with heap := s.heap.push { cls := .type "list", data := .seq its.toArray }, toks := t' } :=
  I.laid (fun _ _ q => Heap.get?_push_of_some _ q) (Nat.le_refl _) ⟨hz, its, 0, hv, Heap.get?_push_size _ rfl⟩
theorem Inv.fresh (I : Inv X pins σ H s) : H s.heap.objs.size = none := I.hok.fresh (Nat.le_refl _)
theorem Inv.lstM (I : Inv X pins σ H s) (hH : H l = some (.lst xs)) : xs.length ≤ sizeLine ∧ ∃ (its : List Value) (n : Nat), Vals xs its ∧ xs.length = its.length ∧ s.heap.get? l = some { cls := .type "list", data := .seq its.toArray n } := by
  obtain ⟨z, its, n, r, e⟩ := I.hok l _ hH
  exact ⟨z, its, n, r, r.length, e⟩

theorem notLongL {n : Nat} (h : n ≤ sizeLine) : Builtin.List.listTooLong n = false := by
  unfold Builtin.List.listTooLong
  exact decide_eq_false (by omega)
end

section
variable {X : Cx}

/-! ### methods -/
def rAppend : V → List V → Hp → VK → Prop := fun x vs H Q => ∃ l xs y, x = .ref l ∧ vs = [y] ∧ H l = some (.lst xs) ∧ xs.length < sizeLine ∧ Q .non (upd H l (.lst (xs ++ [y])))
theorem mt_append : MtM X "list.append" rAppend := by
  intro pins s σ H x vs v us Q I rx rv h
  obtain ⟨l, xs, y, rfl, rfl, hH, hz, q⟩ := h
  cases rx
  obtain ⟨u, rfl, ru⟩ := rv.one
  obtain ⟨z, its, n, r, hl, e⟩ := I.lstM hH
  refine call_meets F.slot_list_append ⟨_, e, rfl⟩ F.entry_list_append (F.args_list_append_2 _ _) (PySem.list_append l its.toArray n u (by rw [List.size_toArray]; omega)) ⟨e, ?_⟩
  refine ⟨.non, _, I.lset (its' := its ++ [u]) hH e (by simp) (r.append (.cons ru .nil)) ?_, rfl, q⟩
  rw [List.length_append, List.length_singleton]
  omega

def rExtend : V → List V → Hp → VK → Prop := fun x vs H Q => ∃ l b xs zs, x = .ref l ∧ vs = [.ref b] ∧ H l = some (.lst xs) ∧ H b = some (.lst zs) ∧ xs.length + zs.length ≤ sizeLine ∧ Q .non (upd H l (.lst (xs ++ zs)))
theorem mt_extend : MtM X "list.extend" rExtend := by
  intro pins s σ H x vs v us Q I rx rv h
  obtain ⟨l, b, xs, zs, rfl, rfl, hH, hB, hz, q⟩ := h
  cases rx
  obtain ⟨u, rfl, ru⟩ := rv.one
  cases ru
  obtain ⟨z, its, n, r, hl, e⟩ := I.lstM hH
  obtain ⟨z2, its2, n2, r2, hl2, e2⟩ := I.lstM hB
  have hsz : its.toArray.size + its2.toArray.size ≤ sizeLine := by rw [List.size_toArray, List.size_toArray]; omega
  have hlong : ¬ (!its.toArray.isEmpty && Builtin.List.listTooLong (its.toArray.size + its2.toArray.size)) = true := by
    rw [notLongL hsz, Bool.and_false]
    exact Bool.false_ne_true
  refine call_meets F.slot_list_extend ⟨_, e, rfl⟩ F.entry_list_extend (F.args_list_extend_2 _ _)
    (AutoSeq1.list_extend_list_list_0 l its.toArray n b its2.toArray n2 hlong (by rw [List.size_toArray]; omega) (by omega)) ⟨e, e2, ?_⟩
  refine ⟨.non, _, I.lset (its' := its ++ its2) hH e (by simp) (r.append r2) ?_, rfl, q⟩
  rw [List.length_append]
  omega

def rPop : V → List V → Hp → VK → Prop := fun x vs H Q => ∃ l xs y, x = .ref l ∧ vs = [] ∧ H l = some (.lst xs) ∧ xs[xs.length - 1]? = some y ∧ Q y (upd H l (.lst xs.dropLast))
theorem mt_pop : MtM X "list.pop" rPop := by
  intro pins s σ H x vs v us Q I rx rv h
  obtain ⟨l, xs, y, rfl, rfl, hH, hy, q⟩ := h
  cases rx
  have hus := rv.zero
  subst hus
  obtain ⟨z, its, n, r, hl, e⟩ := I.lstM hH
  obtain ⟨u, hu, ru⟩ := r.get hy
  have hy' : its.toArray[its.toArray.size - 1]? = some u := by
    show its.toArray[its.length - 1]? = some u
    rw [← Array.getElem?_toList, ← hl]
    exact hu
  refine call_meets F.slot_list_pop ⟨_, e, rfl⟩ F.entry_list_pop (F.args_list_pop_1 _) (MeetsSeq.list_pop_last l its.toArray n u hy' (by rw [List.size_toArray]; omega)) ⟨e, ?_⟩
  refine ⟨y, _, I.lset (its' := its.dropLast) hH e ?_ r.dropLast ?_, ru, q⟩
  · show its.toArray.eraseIdxIfInBounds (its.toArray.size - 1) = its.dropLast.toArray
    rw [List.size_toArray, List.eraseIdxIfInBounds_toArray, erase_last]
  · rw [List.length_dropLast]
    omega

def rPopAt : V → List V → Hp → VK → Prop := fun x vs H Q => ∃ l xs i k y, x = .ref l ∧ vs = [.int i] ∧ H l = some (.lst xs) ∧ -(2 ^ 63) ≤ i ∧ i < 2 ^ 63 ∧ seqIndex? i xs.length = some k ∧ xs[k]? = some y ∧ Q y (upd H l (.lst (xs.eraseIdx k)))
theorem mt_popAt : MtM X "list.pop" rPopAt := by
  intro pins s σ H x vs v us Q I rx rv h
  obtain ⟨l, xs, i, k, y, rfl, rfl, hH, h1, h2, hk, hy, q⟩ := h
  cases rx
  obtain ⟨u, rfl, ru⟩ := rv.one
  obtain ⟨t, rfl⟩ := ru
  obtain ⟨z, its, n, r, hl, e⟩ := I.lstM hH
  obtain ⟨w, hw, rw'⟩ := r.get hy
  refine call_meets F.slot_list_pop ⟨_, e, rfl⟩ F.entry_list_pop (F.args_list_pop_2 _ _)
    (MeetsSeq.list_pop_at l its.toArray n i t k w (fitsIndex_both h1 h2) (by rw [List.size_toArray, ← hl]; exact hk) (by rw [← Array.getElem?_toList]; exact hw) (by rw [List.size_toArray]; omega)) ⟨e, ?_⟩
  refine ⟨y, _, I.lset (its' := its.eraseIdx k) hH e ?_ (r.eraseIdx k) ?_, rw', q⟩
  · show its.toArray.eraseIdxIfInBounds k = (its.eraseIdx k).toArray
    rw [List.eraseIdxIfInBounds_toArray]
  · have := len_erase xs k
    omega

def rReverse : V → List V → Hp → VK → Prop := fun x vs H Q => ∃ l xs, x = .ref l ∧ vs = [] ∧ H l = some (.lst xs) ∧ Q .non (upd H l (.lst xs.reverse))
theorem mt_reverse : MtM X "list.reverse" rReverse := by
  intro pins s σ H x vs v us Q I rx rv h
  obtain ⟨l, xs, rfl, rfl, hH, q⟩ := h
  cases rx
  have hus := rv.zero
  subst hus
  obtain ⟨z, its, n, r, hl, e⟩ := I.lstM hH
  refine call_meets F.slot_list_reverse ⟨_, e, rfl⟩ F.entry_list_reverse (F.args_list_reverse_1 _) (AutoSeq1.list_reverse_list_0 l its.toArray n (by rw [List.size_toArray]; omega)) ⟨e, ?_⟩
  refine ⟨.non, _, I.lset (its' := its.reverse) hH e (by simp) r.reverse ?_, rfl, q⟩
  rw [List.length_reverse]
  omega

def rClear : V → List V → Hp → VK → Prop := fun x vs H Q => ∃ l xs, x = .ref l ∧ vs = [] ∧ H l = some (.lst xs) ∧ Q .non (upd H l (.lst []))
theorem mt_clear : MtM X "list.clear" rClear := by
  intro pins s σ H x vs v us Q I rx rv h
  obtain ⟨l, xs, rfl, rfl, hH, q⟩ := h
  cases rx
  have hus := rv.zero
  subst hus
  obtain ⟨z, its, n, r, hl, e⟩ := I.lstM hH
  refine call_meets F.slot_list_clear ⟨_, e, rfl⟩ F.entry_list_clear (F.args_list_clear_1 _) (AutoSeq1.list_clear_list_0 l its.toArray n (by rw [List.size_toArray]; omega)) ⟨e, ?_⟩
  exact ⟨.non, _, I.lset (its' := []) (ys := []) hH e rfl .nil (Nat.zero_le _), rfl, q⟩

/-! ### list + list, list += list, list * int -/
def rCat : R2 := fun x y H Q => ∃ l b xs zs, x = .ref l ∧ y = .ref b ∧ H l = some (.lst xs) ∧ H b = some (.lst zs) ∧ xs.length + zs.length ≤ sizeLine ∧ ∀ p, H p = none → Q (.ref p) (upd H p (.lst (xs ++ zs)))
theorem op_cat : OpR X (binaryOp .Add) rCat := by
  intro pins s σ H x y v u Q I rx ry h
  obtain ⟨l, b, xs, zs, rfl, rfl, hH, hB, hz, q⟩ := h
  cases rx
  cases ry
  obtain ⟨z, its, n, r, hl, e⟩ := I.lstM hH
  obtain ⟨z2, its2, n2, r2, hl2, e2⟩ := I.lstM hB
  refine PySem.P.add_list e e2 ?_ (by rw [List.size_toArray, List.size_toArray]; omega)
  have ea : its.toArray ++ its2.toArray = (its ++ its2).toArray := by simp
  rw [ea]
  exact ⟨.ref _, _, I.lnew (t' := s.toks) (r.append r2) (by rw [List.length_append]; omega), rfl, q _ I.fresh⟩
/-- a list times an int (a negative one is nothing) -/
def rRep : R2 := fun x y H Q => ∃ l k xs, x = .ref l ∧ y = .int k ∧ H l = some (.lst xs) ∧ -(2 ^ 63) ≤ k ∧ k < 2 ^ 63 ∧ xs.length * k.toNat ≤ sizeLine ∧
  ∀ p, H p = none → Q (.ref p) (upd H p (.lst (List.replicate k.toNat xs).flatten))
theorem len_rep {α : Type} (xs : List α) (k : Nat) : (List.replicate k xs).flatten.length = k * xs.length := by
  induction k with
  | zero => simp
  | succ k ih => rw [List.replicate_succ, List.flatten_cons, List.length_append, ih, Nat.succ_mul, Nat.add_comm]
theorem op_rep : OpR X (binaryOp .Mult) rRep := by
  intro pins s σ H x y v u Q I rx ry h
  obtain ⟨l, k, xs, rfl, rfl, hH, h1, h2, hz, q⟩ := h
  cases rx
  obtain ⟨t, rfl⟩ := ry
  obtain ⟨z, its, n, r, hl, e⟩ := I.lstM hH
  have hlen : its.toArray.size * k.toNat ≤ sizeLine := by rw [List.size_toArray, ← hl]; exact hz
  have hcap : ¬ its.toArray.size * k.toNat > (2 ^ 63 - 1) / 8 := by
    have : (sizeLine : Nat) ≤ (2 ^ 63 - 1) / 8 := by decide
    omega
  have hfit : ¬ (!Builtin.List.listFitsIndex k) = true := by
    rw [fitsIndex_both h1 h2]
    exact Bool.false_ne_true
  have hlong : ¬ Builtin.List.listTooLong (its.toArray.size * k.toNat) = true := by
    rw [notLongL hlen]
    exact Bool.false_ne_true
  have hnew : List.foldl (fun x1 x2 => x1 ++ x2) #[] (List.replicate (if its.toArray.isEmpty = true then 0 else k.toNat) its.toArray) = (List.replicate k.toNat its).flatten.toArray := by
    have f0 : ∀ m : Nat, List.foldl (fun x1 x2 => x1 ++ x2) #[] (List.replicate m its.toArray) = (List.replicate m its).flatten.toArray := fun m => by
      have := foldl_rep its m []
      rw [List.nil_append] at this
      exact this
    rw [f0]
    cases its with
    | nil => simp
    | cons a r' => rw [if_neg (by simp)]
  refine wpAny_binaryOp_repeat_ref (T := "list") (U := "int") (by decide) ⟨_, e, rfl⟩ (fun s' => typeIs_int s' k t) noFill_list_mul F.fills_int_mul F.slot_int_rmul repeat_list F.slot_int_index.lookup
    (call_meets F.slot_int_rmul (typeIs_int s k t) F.entry_int_rmul (F.args_int_rmul_2 _ _) (int___rmul___int_list k t l its.toArray n)
      ⟨e, rfl, ⟨_, e, rfl⟩, call_meets F.slot_list_mul ⟨_, e, rfl⟩ F.entry_list_mul (F.args_list_mul_2 _ _) (AutoListH.list___mul___list_int_3 l its.toArray n k t hfit hcap hlong) ⟨e, ?_⟩⟩)
  rw [hnew]
  exact ⟨.ref _, _, I.lnew (t' := s.toks) (r.rep k.toNat) (by rw [len_rep, Nat.mul_comm]; exact hz), rfl, q _ I.fresh⟩

/-! ### del xs[i] -/
theorem del_list {pins : List (Addr × Obj)} {s : Shared} {σ : St} {H : Hp} {l : Addr} {xs : List V} {i : Int} {t : Tok} {k : Nat} {Q : Unit → Shared → Prop} (I : Inv X pins σ H s) (hH : H l = some (.lst xs))
    (h1 : -(2 ^ 63) ≤ i) (h2 : i < 2 ^ 63) (hk : seqIndex? i xs.length = some k) (h : ∀ s', Inv X pins σ (upd H l (.lst (xs.eraseIdx k))) s' → Q () s') :
    wpAny (model X.prog X.w) X.A (delItem (.ref l) (.int i t)) Q X.xe s := by
  obtain ⟨z, its, n, r, hl, e⟩ := I.lstM hH
  refine PySem.P.delItem_list (k := k) e (fitsIndex_both h1 h2) (by rw [List.size_toArray, ← hl]; exact hk) (h _ ?_) (by rw [List.size_toArray]; omega)
  refine I.lset (its' := its.eraseIdx k) (t' := s.toks) hH e ?_ (r.eraseIdx k) ?_
  · show its.toArray.eraseIdxIfInBounds k = (its.eraseIdx k).toArray
    rw [List.eraseIdxIfInBounds_toArray]
  · have := len_erase xs k
    omega
end

/-! ### xs[a:b] = ys -/
section
variable {prog : Program} {w : World} {A : Around} {E : Value → Shared → Prop} {s : Shared}
theorem splice_eq (its its2 : List Value) (a c : Nat) : its.toArray.extract 0 a ++ its2.toArray ++ its.toArray.extract c its.toArray.size = (its.take a ++ its2 ++ its.drop c).toArray := by
  apply Array.toList_inj.mp
  first
    | (simp
       exact List.take_of_length_le (by simp))
    | simp [List.take_of_length_le]
    | simp
theorem bounds_run {a c n : Nat} (hac : a ≤ c) (hc : c ≤ n) : sliceBounds (some (a : Int)) (some (c : Int)) none n = ((a : Int), (c : Int), 1) := by
  simp only [sliceBounds, Option.getD_none]
  have h1 : ¬ ((a : Int) < 0) := by omega
  have h2 : ¬ ((c : Int) < 0) := by omega
  simp only [h1, h2, if_false, show (1 : Int) > 0 by decide, if_true]
  congr 1
  · omega
  · congr 1; omega
set_option maxRecDepth 100000 in
/-- list.__setitem__ with a slice of step one and another list -/
theorem setItem_slice {l b sl : Addr} {items new : Array Value} {n n2 : Nat} {vl vu : Value} {a c : Nat} {Q : Unit → Shared → Prop}
    (e : s.heap.get? l = some { cls := .type "list", data := .seq items n }) (e2 : s.heap.get? b = some { cls := .type "list", data := .seq new n2 }) (hne : l ≠ b)
    (hs : s.heap.IsSliceOf sl vl vu .none) (pl : IsPart vl (some (a : Int))) (pu : IsPart vu (some (c : Int))) (hac : a ≤ c) (hc : c ≤ items.size)
    (hsz : items.size + new.size ≤ sizeLine) (h : Q () { s with heap := s.heap.update l (Obj.mapSeq fun xs => xs.extract 0 a ++ new ++ xs.extract c xs.size) }) :
    wpAny (model prog w) A (setItem (.ref l) (.ref sl) (.ref b)) Q E s := by
  have hl : s.heap.IsList l items := PySem.IsL.isList e
  have hb : s.heap.IsList b new := PySem.IsL.isList e2
  obtain ⟨os, hos, hcs, hds⟩ := id hs
  have hTs : s.TypeIs (.ref sl) "slice" := ⟨os, hos, hcs⟩
  have hstep : ¬ ((rawPart none == rawInt 0) = true) := Bool.false_ne_true
  have hsame : Builtin.List.listSameRef (.ref l) (.ref b) = false := by
    unfold Builtin.List.listSameRef
    exact beq_eq_false_iff_ne.mpr hne
  have hmax : (max (a : Int) (c : Int)).toNat = c := by omega
  have hz' : ((fun xs : Array Value => xs.extract 0 a ++ new ++ xs.extract c xs.size) items).size ≤ sizeLine + 1 := by
    simp only [Array.size_append, Array.size_extract]
    omega
  unfold setItem
  try with_reducible refine wpAny_holding ?_
  first | refine wpAny_bind (wpAny_pure ?_) | skip
  refine wpAny_bind (wpAny_sequenceKey hl.typeIs (by decide) ?_)
  refine wpAny_bind (wpAny_callSpecial?_slot (name := Str.ofString "__setitem__") hl.typeIs slot_list_setitem
    (wpAny_call_entry slot_list_setitem hl.typeIs entry_list_setitem ?_ (args_list_setitem _ _ _)))
  show wpAny _ _ (Builtin.List.listSubscript? (.ref sl) >>= _) _ _ s
  refine wpAny_bind ?_
  unfold Builtin.List.listSubscript?
  refine wpAny_bind (wpAny_specialOf hTs slice_no_index ?_)
  simp only [Option.isNone_none, if_true]
  refine wpAny_pure ?_
  show wpAny _ _ (typeOf (.ref sl) >>= _) _ _ s
  refine wpAny_bind (wpAny_typeOf hTs ?_)
  first
    | rw [if_neg (by decide)]
    | refine PySem.W.KFB.if_not (by decide) ?_
  rw [listSliceParts_eq]
  refine wpAny_bind (wpAny_bind (wpAny_field hos hds (x := .none) rfl (wpAny_bind (wpAny_listPart .none ?_))))
  rw [if_neg hstep]
  refine wpAny_bind (wpAny_field hos hds (x := vl) rfl (wpAny_bind (wpAny_listPart pl ?_)))
  refine wpAny_bind (wpAny_field hos hds (x := vu) rfl (wpAny_bind (wpAny_listPart pu (wpAny_pure ?_))))
  first
    | simp only [hsame, Bool.false_eq_true, if_false]
    | refine PySem.W.KFB.if_not hsame ?_
    | (dsimp only
       rw [if_neg (by rw [hsame]; exact Bool.false_ne_true)])
  refine wpAny_bind (m := Builtin.List.listAllItems (.ref b) "must assign iterable to extended slice") ?_
  unfold Builtin.List.listAllItems
  refine wpAny_bind (wpAny_typeOf hb.typeIs ?_)
  first
    | refine PySem.W.KFB.if_so (by decide) ?_
    | rw [if_pos (by decide)]
    | simp only [beq_self_eq_true, Bool.true_or, if_true]
  unfold Builtin.List.listItems
  refine wpAny_bind (wpAny_seqItems e2 rfl (wpAny_pure ?_))
  refine wpAny_bind (wpAny_bind (wpAny_seqItems e rfl (wpAny_pure ?_)))
  refine wpAny_bind (wpAny_of_eq ((sliceIndices_raw (some (a : Int)) (some (c : Int)) none items.size (by simp)).trans (congrArg (pure : Int × Int × Int → Sem (Int × Int × Int)) (bounds_run hac hc))) ?_)
  show wpAny _ _ (if ((1 : Int) == 1) = true then _ else _) _ _ s
  rw [if_pos (by decide)]
  refine wpAny_bind (wpAny_rule ?_)
  first
    | simp only [notLongL hsz, Bool.false_eq_true, if_false]
    | refine PySem.W.KFB.if_not (notLongL hsz) ?_
  first | refine wpAny_bind (wpAny_pure ?_) | skip
  show wpAny _ _ (updateSeq l (fun xs => xs.extract 0 ((a : Int)).toNat ++ new ++ xs.extract (max (a : Int) (c : Int)).toNat xs.size) >>= _) _ _ s
  rw [hmax, Int.toNat_natCast]
  refine wpAny_bind (wpAny_updateSeq (hz := Nat.le_trans (Nat.le_add_right _ _) hsz) (_hz' := hz') e rfl ?_)
  refine wpAny_bind (wpAny_letGo ?_)
  first
    | exact wpAny_bind (wpAny_pure (wpAny_pure ⟨.none, rfl, wpAny_pure h⟩))
    | exact wpAny_pure ⟨.none, rfl, wpAny_pure h⟩
end

section
variable {X : Cx}
/-- xs[a:c] = ys of another list, at the value level: sl is the slice object that was just made -/
theorem set_slice {pins : List (Addr × Obj)} {s : Shared} {σ : St} {H : Hp} {l b sl : Addr} {xs ys : List V} {a c : Int} {vl vu : Value} {Q : Unit → Shared → Prop} (I : Inv X pins σ H s)
    (hH : H l = some (.lst xs)) (hB : H b = some (.lst ys)) (hne : l ≠ b) (hs : s.heap.IsSliceOf sl vl vu .none) (ra : RelV (.int a) vl) (rc : RelV (.int c) vu) (h0 : 0 ≤ a) (hac : a ≤ c) (hc : c ≤ xs.length)
    (hz : xs.length + ys.length ≤ sizeLine) (h : ∀ s', Inv X pins σ (upd H l (.lst (xs.take a.toNat ++ ys ++ xs.drop c.toNat))) s' → Q () s') :
    wpAny (model X.prog X.w) X.A (setItem (.ref l) (.ref sl) (.ref b)) Q X.xe s := by
  obtain ⟨ta, rfl⟩ := ra
  obtain ⟨tc, rfl⟩ := rc
  obtain ⟨z, its, n, r, hl, e⟩ := I.lstM hH
  obtain ⟨z2, its2, n2, r2, hl2, e2⟩ := I.lstM hB
  obtain ⟨a', rfl⟩ := Int.eq_ofNat_of_zero_le h0
  obtain ⟨c', rfl⟩ := Int.eq_ofNat_of_zero_le (Int.le_trans h0 hac)
  simp only [Int.toNat_natCast] at h
  refine setItem_slice (a := a') (c := c') e e2 hne hs (.int _ _) (.int _ _) (by omega) (by rw [List.size_toArray]; omega) (by rw [List.size_toArray, List.size_toArray]; omega) (h _ ?_)
  refine I.lset (its' := its.take a' ++ its2 ++ its.drop c') (t' := s.toks) hH e ?_ (Vals.append (Vals.append (r.take _) r2) (r.drop _)) ?_
  · exact splice_eq its its2 a' c'
  · rw [List.length_append, List.length_append, List.length_take, List.length_drop]
    omega
end
end L2

namespace Att
open PySem PySem.W PySem.Calls PyProof.Rows

/-! ### the script -/
theorem ints_of_wellAll {P : Params} {h : Heap} : ∀ (ns : List Int) (vs : List Value), WellAll P h vs (ns.map WData.int) → IntsAre vs ns := by
  intro ns
  induction ns with
  | nil =>
    intro vs w
    rw [List.map_nil] at w
    cases w
    exact .nil
  | cons n ns ih =>
    intro vs w
    rw [List.map_cons] at w
    cases w with
    | cons a b =>
      cases a
      exact .cons _ _ (ih _ b)

theorem script_of {l : OpenLaw} {n : Nat} (hn : l.most = some n) {P : Params} {h : Heap} {args : List WData} {vals : List Value}
    (hpre : l.row.toRowW.claim.pre args = true) (hwl : WellAll P h vals args) :
    ∃ a vs ns, vals = [Value.ref a] ∧ args = [WData.list (ns.map WData.int)] ∧ h.get? a = some { cls := .type "list", data := .seq vs.toArray } ∧ IntsAre vs ns ∧ ns.length ≤ n := by
  have hsh : WShape.hasAll [] args [.list .int] = true := (pre_splitW hpre).1
  have hc : l.pre.holds [] { args := args } = true := (pre_splitW hpre).2
  obtain ⟨d, r, rfl, h1, h2⟩ := hasAllW_cons hsh
  obtain rfl := hasAllW_nil h2
  obtain ⟨xs, rfl, h3⟩ := hasW_list h1
  obtain ⟨ns, rfl⟩ := items_int h3
  have hlen : ns.length ≤ n := by
    unfold OpenLaw.pre at hc
    have h4 : (WTm.not (.lt (.lit (.int (n : Int))) (.len (.arg 0)))).holds [] { args := [.list (ns.map .int)] } = true := by
      have h4 := (holds_andW hc).1
      rw [hn] at h4
      exact h4
    have h5 := condW_of h4 (w_not (w_lt w_lit (w_len_list (w_arg rfl))))
    rw [List.length_map] at h5
    refine Nat.le_of_not_lt fun q => ?_
    have q' : (n : Int) < ((ns.length : Nat) : Int) := by omega
    first
      | (rw [decide_eq_true q'] at h5; exact absurd h5 (by decide))
      | (simp at h5; omega)
  cases hwl with
  | cons w1 w2 =>
    cases w2
    cases w1 with
    | list ho hall => exact ⟨_, _, ns, rfl, rfl, ho, ints_of_wellAll ns _ hall, hlen⟩

theorem post_true (l : OpenLaw) (args : List WData) : l.row.toRowW.claim.post args (.bool true) args = true :=
  postW_of (r := l.row.toRowW) (X := (true == true))
    (show WShape.has [] (.bool true) .bool = true by first | rfl | decide | simp [WShape.has, WShape.arms, WShape.armsAll])
    (show (WTm.eq .res (.lit (.bool true))).value [] { args := args, res := some (.bool true), after := args } = some (.bool (true == true)) from w_eq_bool (w_res rfl) w_lit) rfl

/-! ### the attachment: holds_open's last premise (the goal 'hc' behind k_head) from a wpAny of the law's body -/
theorem attach {l : OpenLaw} {n : Nat} {q : Program} {loose : List Str} {XP : (Str → Option Value) → Heap → Prop} {YP : World → Heap → Prop} {d : DefRec} {x : Str}
    (hn : l.most = some n) (hdf : d.params.defaults = [])
    (hbind : ∀ pm cd doc v : Value, bindArgs (docDef d.name d.params d.body d.scope pm cd doc) ⟨[v], []⟩ = pure [(x, v)])
    (hx : d.scope.names.lookup x = some .local ∨ d.scope.names.lookup x = some .cell)
    (hk : d.scope.kind = .function) (hco : d.scope.isCoroutine = false) (hgen : d.scope.isGenerator = false)
    (body : ∀ (w : World) (s₀ s₁ s : Shared) (mg mb : Str → Option Value) (fa : Addr) (o : Obj) (pm cd doc : Value) (a : Addr) (vs : List Value) (ns : List Int),
      Ground q loose [] XP w s₀ mg mb s₁.heap → YP w s₁.heap →
      s₁.heap.get? fa = some o → o.data = .func (docDef d.name d.params d.body d.scope pm cd doc) → s₁.heap.CodeRec cd d.name → mg d.name = some (.ref fa) →
      s₁.heap.get? a = some { cls := .type "list", data := .seq vs.toArray } → IntsAre vs ns → ns.length ≤ n →
      s.gens = #[] → s.os = s₁.os →
      Fr s₁.heap s₁.heap.objs.size s.heap (bindL (envOfC d.name d.scope s₁.heap.objs.size fa cd).kindOf [(x, .ref a)] fun _ => none) →
      Cl s₁.heap.objs.size (cellsFrom (s₁.heap.objs.size + 1) d.scope.names []) s.heap (bindC (envOfC d.name d.scope s₁.heap.objs.size fa cd).kindOf [(x, .ref a)] fun _ => none) →
      wpAny (model l.prog w) (callerA.deeper (envOfC d.name d.scope s₁.heap.objs.size fa cd)) (execs d.body (envOfC d.name d.scope s₁.heap.objs.size fa cd))
        (fun f s' => f = .ret (.bool true) ∧ OldK s₁.heap s'.heap ∧ s'.os = s₁.os ∧ AllBare s'.gens) (fun _ _ => False) s) :
    WalkO q loose XP YP l.row.toRowW d [] (fun f vs => PySem.call f vs) := by
  intro w s₀ s₁ mg mb G Y fa o pm cd doc dV kV ho hd hcd hD hmg hg args vals as hpre hlay hrd hwl hlo
  obtain rfl : dV = .none := Dflts.none hD hdf
  obtain rfl : kV = .none := Dflts.noKw hD
  obtain ⟨a, vs, ns, rfl, rfl, hobj, hints, hlen⟩ := script_of hn hpre hwl
  refine enter_call ?_
  refine call_cells_ret (o := o) (by rw [depth_caller]; decide) ho (fd_plain hd) G.T.nolimit hcd (hbind pm cd doc (.ref a)) (fun y hy => ?_) (fun h₁ tk F X => ?_) hco hgen hk
  · obtain rfl : y = (x, Value.ref a) := List.mem_singleton.mp hy
    rcases hx with e | e
    · exact .inl e
    · exact .inr ⟨e, cellsFrom_some _ _ _ (.inl e)⟩
  · refine wpAny_mono (body w s₀ s₁ { s₁ with heap := h₁, toks := tk } mg mb fa o pm cd doc a vs ns G Y ho (fd_plain hd) hcd hmg hobj hints hlen hg rfl F X) (fun f s' hq => ?_) (fun _ _ hq => hq)
    obtain ⟨rfl, h2, h3, h4⟩ := hq
    exact ⟨.inl ⟨.bool true, .bool true, [], rfl, fun _ => rfl, .bool true, post_true l _, fun _ => ⟨List.Pairwise.nil, fun _ hm => (nomatch hm)⟩⟩, h2, h3, h4⟩

/-- the same from a codeAny of the CALL (for a layer whose function contracts speak of calls) -/
theorem attach_call {l : OpenLaw} {n : Nat} {q : Program} {loose : List Str} {XP : (Str → Option Value) → Heap → Prop} {YP : World → Heap → Prop} {d : DefRec}
    (hn : l.most = some n) (hdf : d.params.defaults = [])
    (call : ∀ (w : World) (s₀ s₁ : Shared) (mg mb : Str → Option Value) (fa : Addr) (o : Obj) (pm cd doc : Value) (a : Addr) (vs : List Value) (ns : List Int),
      Ground q loose [] XP w s₀ mg mb s₁.heap → YP w s₁.heap →
      s₁.heap.get? fa = some o → o.data = .func (docDef d.name d.params d.body d.scope pm cd doc) → s₁.heap.CodeRec cd d.name → mg d.name = some (.ref fa) →
      s₁.heap.get? a = some { cls := .type "list", data := .seq vs.toArray } → IntsAre vs ns → ns.length ≤ n → s₁.gens = #[] →
      codeAny (model l.prog w) callerA (.call (.ref fa) ⟨[.ref a], []⟩) (fun r s' => r = .ok (.ret (.bool true)) ∧ OldK s₁.heap s'.heap ∧ s'.os = s₁.os ∧ AllBare s'.gens) s₁) :
    WalkO q loose XP YP l.row.toRowW d [] (fun f vs => PySem.call f vs) := by
  intro w s₀ s₁ mg mb G Y fa o pm cd doc dV kV ho hd hcd hD hmg hg args vals as hpre hlay hrd hwl hlo
  obtain rfl : dV = .none := Dflts.none hD hdf
  obtain rfl : kV = .none := Dflts.noKw hD
  obtain ⟨a, vs, ns, rfl, rfl, hobj, hints, hlen⟩ := script_of hn hpre hwl
  refine enter_call (codeAny_mono (call w s₀ s₁ mg mb fa o pm cd doc a vs ns G Y ho (fd_plain hd) hcd hmg hobj hints hlen hg) fun r s' hq => ?_)
  obtain ⟨rfl, h2, h3, h4⟩ := hq
  exact ⟨.inl ⟨.bool true, .bool true, [], rfl, fun _ => rfl, .bool true, post_true l _, fun _ => ⟨List.Pairwise.nil, fun _ hm => (nomatch hm)⟩⟩, h2, h3, h4⟩

/-- the same where the top left finished generators (o_head chose holds_openN): nothing may have changed at all and no generator may be left -/
theorem attachN {l : OpenLaw} {n : Nat} {q : Program} {loose : List Str} {XP : (Str → Option Value) → Heap → Prop} {YP : World → Heap → Prop} {d : DefRec} {x : Str}
    (hn : l.most = some n) (hdf : d.params.defaults = [])
    (hbind : ∀ pm cd doc v : Value, bindArgs (docDef d.name d.params d.body d.scope pm cd doc) ⟨[v], []⟩ = pure [(x, v)])
    (hx : d.scope.names.lookup x = some .local ∨ d.scope.names.lookup x = some .cell)
    (hk : d.scope.kind = .function) (hco : d.scope.isCoroutine = false) (hgen : d.scope.isGenerator = false)
    (body : ∀ (w : World) (s₀ s₁ s : Shared) (mg mb : Str → Option Value) (fa : Addr) (o : Obj) (pm cd doc : Value) (a : Addr) (vs : List Value) (ns : List Int),
      Ground q loose [] XP w s₀ mg mb s₁.heap → YP w s₁.heap →
      s₁.heap.get? fa = some o → o.data = .func (docDef d.name d.params d.body d.scope pm cd doc) → s₁.heap.CodeRec cd d.name → mg d.name = some (.ref fa) →
      s₁.heap.get? a = some { cls := .type "list", data := .seq vs.toArray } → IntsAre vs ns → ns.length ≤ n →
      s.gens = #[] → s.os = s₁.os →
      Fr s₁.heap s₁.heap.objs.size s.heap (bindL (envOfC d.name d.scope s₁.heap.objs.size fa cd).kindOf [(x, .ref a)] fun _ => none) →
      Cl s₁.heap.objs.size (cellsFrom (s₁.heap.objs.size + 1) d.scope.names []) s.heap (bindC (envOfC d.name d.scope s₁.heap.objs.size fa cd).kindOf [(x, .ref a)] fun _ => none) →
      wpAny (model l.prog w) (callerA.deeper (envOfC d.name d.scope s₁.heap.objs.size fa cd)) (execs d.body (envOfC d.name d.scope s₁.heap.objs.size fa cd))
        (fun f s' => f = .ret (.bool true) ∧ (∀ b o, s₁.heap.get? b = some o → s'.heap.get? b = some o) ∧ s'.os = s₁.os ∧ s'.gens = #[]) (fun _ _ => False) s) :
    WalkN q loose XP YP l.row.toRowW d [] (fun f vs => PySem.call f vs) := by
  intro w s₀ s₁ mg mb G Y fa o pm cd doc dV kV ho hd hcd hD hmg hg args vals as hpre hlay hrd hwl hlo
  obtain rfl : dV = .none := Dflts.none hD hdf
  obtain rfl : kV = .none := Dflts.noKw hD
  obtain ⟨a, vs, ns, rfl, rfl, hobj, hints, hlen⟩ := script_of hn hpre hwl
  refine enter_callW ?_
  refine call_cells_ret (o := o) (by rw [depth_caller]; decide) ho (fd_plain hd) G.T.nolimit hcd (hbind pm cd doc (.ref a)) (fun y hy => ?_) (fun h₁ tk F X => ?_) hco hgen hk
  · obtain rfl : y = (x, Value.ref a) := List.mem_singleton.mp hy
    rcases hx with e | e
    · exact .inl e
    · exact .inr ⟨e, cellsFrom_some _ _ _ (.inl e)⟩
  · refine wpAny_mono (body w s₀ s₁ { s₁ with heap := h₁, toks := tk } mg mb fa o pm cd doc a vs ns G Y ho (fd_plain hd) hcd hmg hobj hints hlen hg rfl F X) (fun f s' hq => ?_) (fun _ _ hq => hq)
    obtain ⟨rfl, h2, h3, h4⟩ := hq
    exact ⟨.inl ⟨.bool true, .bool true, [], rfl, fun _ => rfl, .bool true, post_true l _, fun _ => ⟨List.Pairwise.nil, fun _ hm => (nomatch hm)⟩⟩, h2, h3, h4⟩

/-! ### rules over ANY heap (no ledger) from facts about the written part K: the library's own take a ledger (News) for what they write -/
section
variable {prog : Program} {w : World} {A : Around} {E : Value → Shared → Prop} {s : Shared} {K : Frag}

/-- a def of the module, or a method (qual 'C.m'), entered: the frame is the next address; cells behind it -/
theorem call_fn {R : Result → Shared → Prop} {name qual : Str} {params : Arguments} {body : List Stmt} {scope : Scope} {dV kV doc pm cdv ct oc : Value} {an od : Option Addr} {osl : Array (Option Value)} {f : Addr} {args : Args} {binds : List (Str × Value)}
    (X : K.In s.heap) (hlim : s.heap.NoLimit) (ho : K.lookup f = some ⟨oc, od, .func (fnOf name qual params body scope dV kV doc pm an cdv ct), osl⟩) (hcd : codeIn K cdv qual = true) (hroom : A.depth < recursionLimit)
    (hbind : BindsTo s (fnOf name qual params body scope dV kV doc pm an cdv ct) args binds)
    (hkind : (binds.all fun y => scope.names.lookup y.1 == some .local || scope.names.lookup y.1 == some .cell) = true)
    (h : ∀ s₁, InCallC s s.heap.objs.size (bindL (envOfC qual scope s.heap.objs.size f cdv).kindOf binds fun _ => none) (cellsFrom (s.heap.objs.size + 1) scope.names [])
        (bindC (envOfC qual scope s.heap.objs.size f cdv).kindOf binds fun _ => none) s₁ →
      wpAny (model prog w) (A.deeper (envOfC qual scope s.heap.objs.size f cdv)) (execs body (envOfC qual scope s.heap.objs.size f cdv))
        (fun fl s' => R (.ok (.ret (match fl with | .ret v => v | _ => .none))) s')
        (fun e s' => wpAny (model prog w) (A.deeper (envOfC qual scope s.heap.objs.size f cdv)) (leaving (envOfC qual scope s.heap.objs.size f cdv) e) (fun _ s'' => R (.error e) s'') (fun e' s'' => R (.error e') s'') s') s₁)
    (hco : scope.isCoroutine = false) (hgen : scope.isGenerator = false) (hk : scope.kind = .function) : codeAny (model prog w) A (.call (.ref f) args) R s := by
  refine codeAny_call_function hroom (X _ _ ho) rfl hco hgen rfl (codeRec_of X hcd) (hbind _ _ _ _ ?_)
  refine wpAny_newFunctionEnv_cells hk (kindsX hkind _) fun env he s₁ x => ?_
  subst he
  exact ⟨hlim.keeps x.toInCall.keep, codeAny_func (h s₁ x)⟩

/-- C(..): dict at size, instance at size + 1, then __init__ -/
theorem make_obj {R : Result → Shared → Prop} {C fI : Addr} {rest : List Value} {kw : List (Str × Value)}
    (X : K.In s.heap) (hm : makesIn K C = true) (hi : findIn K (.ref C) "__init__" = some (some (.ref fI))) (hf : isFn K (.ref fI) = true)
    (h : codeAny (model prog w) (A.under (.builtin "type.__call__" ⟨.ref C :: rest, kw⟩)) (.call (.ref fI) ⟨.ref (s.heap.objs.size + 1) :: rest, kw⟩) (InitBack (s.heap.objs.size + 1) R)
      { s with heap := (s.heap.push emptyDict).push (instObj C s.heap.objs.size) }) : codeAny (model prog w) A (.call (.ref C) ⟨rest, kw⟩) R s := by
  obtain ⟨hh, g, d, t, os⟩ := s
  exact make_core (makes_of X hm) (looks_findIn X hi) (fun self => bind_fn X self (beq_iff_eq.mp hf)) (.inl rfl) h

/-- x.name where the instance's dict holds the name and the class does not -/
theorem get_field {x C : Addr} {ox : Obj} {es : List DictEntry} {n : Nat} {name : Str} {expr : Bool} {v : Value} {Q : Value → Shared → Prop}
    (X : K.In s.heap) (I : PySem.W.InstAt s.heap x ox C (some (dictOf es n))) (hg : plainGet K C name = true) (hh : hasDictIn K C = true) (ha : findIn K (.ref C) name = some none)
    (hl : getL name es = some (some v)) (hv : handedIn v = true) (h : Q v { s with toks := s.toks + 1 }) : wpAny (model prog w) A (getAttr (.ref x) name expr) Q E s :=
  get_value X I (plainGet_of hg).1 (findObj_own hh ha rfl hl) hv h

/-- x.m(..): the method found in the class -/
theorem get_method {x C f : Addr} {ox : Obj} {es : List DictEntry} {n : Nat} {name : Str} {pl : Sem Bool} {Q : Value × List Value → Shared → Prop}
    (X : K.In s.heap) (I : PySem.W.InstAt s.heap x ox C (some (dictOf es n))) (hg : plainGet K C name = true) (hf : findIn K (.ref C) name = some (some (.ref f))) (ht : isFn K (.ref f) = true)
    (hl : getL name es = some none) (h : Q (.ref f, [.ref x]) s) : wpAny (model prog w) A (getMethod (.ref x) name pl) Q E s :=
  method_fn X I (plainGet_of hg).1 (plainGet_of hg).2 hf (beq_iff_eq.mp ht) (by show (lookIn name (dictOf es n)).map _ = _; rw [lookIn_dict, hl]; rfl) h

/-! the whole heap as the ledger: makes every rule that writes through a ledger a rule over any heap -/
def noObjs (h : Heap) : Heap := { h with objs := #[] }
theorem noObjs_get (h : Heap) (b : Addr) : (noObjs h).get? b = none := by
  cases e : (noObjs h).get? b with
  | none => rfl
  | some o => exact absurd (Heap.lt_size e) (Nat.not_lt_zero _)
def ledger (h : Heap) (L d : Addr) : List (Addr × Obj) := (List.range h.objs.size).filterMap fun a => if a = L ∨ a = d then none else (h.get? a).map fun o => (a, o)
theorem mem_ledger {h : Heap} {L d a : Addr} {o : Obj} : (a, o) ∈ ledger h L d ↔ a ≠ L ∧ a ≠ d ∧ h.get? a = some o := by
  unfold ledger
  rw [List.mem_filterMap]
  constructor
  · rintro ⟨b, _, e⟩
    split at e
    · cases e
    · rename_i hb
      obtain ⟨o', ho, e'⟩ := Option.map_eq_some_iff.mp e
      cases e'
      exact ⟨fun q => hb (.inl q), fun q => hb (.inr q), ho⟩
  · rintro ⟨n1, n2, ho⟩
    refine ⟨a, List.mem_range.mpr (Heap.lt_size ho), ?_⟩
    rw [if_neg (show ¬ (a = L ∨ a = d) from fun q => q.elim n1 n2), ho] <;> rfl
theorem news_ledger {h : Heap} {L d : Addr} {od : Obj} (hne : d ≠ L) (ho : h.get? d = some od) : News (noObjs h) L h ([] ++ (d, od) :: ledger h L d) := by
  rintro ⟨a, o⟩ hp
  rcases List.mem_cons.mp hp with e | hp
  · cases e
    exact ⟨ho, hne, noObjs_get _ _⟩
  · obtain ⟨n1, n2, e⟩ := mem_ledger.mp hp
    exact ⟨e, n1, noObjs_get _ _⟩
theorem fr_all {h : Heap} {L : Addr} {m : Str → Option Value} (n : h.Ns L m) : Fr (noObjs h) L h m :=
  ⟨n, fun b o e => (by rw [noObjs_get] at e; cases e), Nat.zero_le _⟩
/-- Upd of the head entry (for append_K, setItem_K ..) -/
theorem upd_ledger {h : Heap} {L d : Addr} {o o' : Obj} : Upd d o o' ((d, o) :: ledger h L d) ((d, o') :: ledger h L d) :=
  .head fun ⟨_, _⟩ hp => (mem_ledger.mp hp).2.1

/-- x.name = v over any heap: L is any namespace of the heap (the frame's, say): its map stays, its object is not told; all else but the dict stays -/
theorem set_field {x C dx L : Addr} {ox : Obj} {m : Str → Option Value} {es es' : List DictEntry} {n n' : Nat} {name : Str} {v : Value} {Q : Unit → Shared → Prop}
    (X : K.In s.heap) (I : PySem.W.InstAt s.heap x ox C (some (dictOf es n))) (hd : ox.dict = some dx) (hL : s.heap.Ns L m) (hne : dx ≠ L)
    (hs : findIn K (.ref C) "__setattr__" = some (some (.builtin "object.__setattr__"))) (hp : plainOver K C = true) (ht : takerIn K C name = some none) (hh : hasDictIn K C = true) (hl : (getL name es).isSome = true)
    (e : (putL name (PyData.keyHash w.params name) (.str name (s.toks + 1)) v es, putN name es n) = (es', n')) (hz : es'.length ≤ 1000)
    (h : ∀ h' : Heap, h'.Ns L m → h'.get? dx = some (dictOf es' n') → (∀ b o, b ≠ dx → b ≠ L → s.heap.get? b = some o → h'.get? b = some o) → Q () { s with heap := h', toks := s.toks + 2 }) :
    wpAny (model prog w) A (setAttr (.ref x) name v) Q E s := by
  obtain ⟨e1, e2⟩ := Prod.mk.inj e
  have hdx : s.heap.get? dx = some (dictOf es n) := by
    have := I.dict
    rw [hd] at this
    exact this
  refine set_plain X I hs (osa_dict (s := { s with toks := s.toks + 1 }) (h₀ := noObjs s.heap) (L := L) (m := m) (od := dictOf es n) (od' := dictOf es' n') (es := es') (n := n') (pre := []) (post := ledger s.heap L dx)
    (fr_all hL) (news_ledger hne hdx) X I hd hp ht hh hl (fun _ q => nomatch q) (fun ⟨_, _⟩ q => (mem_ledger.mp q).2.1) (by rw [putName_dict, e1, e2]) rfl hz fun h' F' N' => ?_)
  exact h h' F'.ns (N'.get (List.Mem.head _)) fun b o n1 n2 ho => N'.get (List.Mem.tail _ (mem_ledger.mpr ⟨n2, n1, ho⟩))
end
end Att

namespace L2
open PySem PySem.Spec PyProof.Rows

theorem vals_ints : ∀ {vs : List Value} {ns : List Int}, IntsAre vs ns → Vals (ns.map V.int) vs
  | _, _, .nil => .nil
  | _, _, .cons n t h => .cons ⟨t, rfl⟩ (vals_ints h)

/-- nothing is tracked but the script, known to the object (or it is an object of the module) -/
def Only (H : Hp) : Prop := ∀ b, H b = none ∨ ∃ o xs, H b = some (.frz o (.lst xs))

/-- THE HEAD: the law's promise, at the heap behind the top. F, the promise of the law's def, may use that base is part of the heap (so K.In base, base.Ns mainGlobals mg stand in Mod) -/
theorem law_call {P : Program} {w : World} {K : PySem.W.Frag} {mg mb : Str → Option Value} {CX : CXT} {k : Nat} {fa a : Addr} {fd : FuncData} {x : Str} {sp : Sp} {s₁ : Shared} {vs : List Value} {ns : List Int}
    (KX : K.In s₁.heap) (hns : s₁.heap.Ns mainGlobals mg) (hb : s₁.heap.Ns builtinsNs mb) (hbb : ∀ x : Str, x ≠ "__name__" → mb x = bootBuiltins x) (hlim : s₁.heap.NoLimit) (hg : s₁.gens = #[])
    (ha : s₁.heap.get? a = some { cls := .type "list", data := .seq vs.toArray }) (hi : IntsAre vs ns) (hl : ns.length ≤ sizeLine) (hr : Room k callerA)
    (F : ∀ base : Heap, K.In base → base.Ns mainGlobals mg → FnOk P w K mg base CX k fa fd [x] sp) (hbind : ∀ (s : Shared) (u : Value), BindsTo s fd ⟨[u], []⟩ [(x, u)])
    (hsp : ∀ H : Hp, Only H → SqL K H a (ns.map V.int) → sp [.ref a] H (fun v _ => v = .bl true) fun _ _ _ => False)
    (hCX : ∀ H e s', CX [] H s₁ (fun _ _ _ => False) e s' → False) :
    codeAny (model P w) callerA (.call (.ref fa) ⟨[.ref a], []⟩) (fun r s' => r = .ok (.ret (.bool true)) ∧ OldK s₁.heap s'.heap ∧ s'.os = s₁.os ∧ AllBare s'.gens) s₁ := by
  have rv := vals_ints hi
  have lenV := hi.length
  -- from an abstract heap in which nothing but the script may be tracked
  have core : ∀ H : Hp, Only H → SqL K H a (ns.map V.int) → HOk P w H s₁.heap → (∀ b, H b ≠ none → b = a) → (H a ≠ none → K.lookup a = none) →
      codeAny (model P w) callerA (.call (.ref fa) ⟨[.ref a], []⟩) (fun r s' => r = .ok (.ret (.bool true)) ∧ OldK s₁.heap s'.heap ∧ s'.os = s₁.os ∧ AllBare s'.gens) s₁ := by
    intro H hO hS hok hA hK
    have base_of : ∀ {b : Addr} {o : Obj}, s₁.heap.get? b = some o → H b = none → (hidT s₁.heap H).get? b = some o := fun e n => hidT_get e n
    have noA : ∀ {b : Addr} {o : Obj} {es : Array DictEntry} {ep : Nat}, s₁.heap.get? b = some o → o.data = .dict es ep → H b = none := fun {b o es ep} e d => by
      cases q : H b with
      | none => rfl
      | some u =>
        have e' : b = a := hA b (by rw [q]; simp)
        subst e'
        rw [ha] at e; cases e
        have d' : Data.seq vs.toArray _ = Data.dict es ep := d
        cases d'
    have nsK : ∀ {b : Addr} {m : Str → Option Value}, s₁.heap.Ns b m → (hidT s₁.heap H).Ns b m := fun {b m} ⟨o, es, ep, e, d, r⟩ => ⟨o, es, ep, base_of e (noA e d), d, r⟩
    have hKb : K.In (hidT s₁.heap H) := fun b o e => base_of (KX b o e) (by
      cases q : H b with
      | none => rfl
      | some u =>
        have e' : b = a := hA b (by rw [q]; simp)
        subst e'
        rw [hK (by rw [q]; simp)] at e; cases e)
    have hM : Mod K mg (hidT s₁.heap H) := ⟨hKb, nsK hns, ⟨mb, nsK hb, hbb⟩, let ⟨mc, h1, h2⟩ := hlim; ⟨mc, nsK h1, h2⟩⟩
    have e0 : Env0 P w K mg (hidT s₁.heap H) callerA [] s₁ H := ⟨rfl, hM, fun b o e => of_hidT e, Nat.le_of_eq (hidT_size _ _), trivial, fun b hb => absurd (show b ∈ ([] : List Addr) from hb) (by simp), hok, .of_eq hg⟩
    refine codeAny_mono ((F _ hKb (nsK hns)).run callerA [] s₁ H ⟨[.ref a], []⟩ [.ref a] [.ref a] _ _ hr e0 (hbind s₁ (.ref a)) (.cons rfl .nil) (hsp H hO hS)) fun r s' h => ?_
    cases r with
    | error e => exact (hCX H e s' h).elim
    | ok fl =>
      cases fl with
      | next => exact False.elim h
      | brk => exact False.elim h
      | cont => exact False.elim h
      | ret u =>
        obtain ⟨v, H', os, bare, un, hok', r', q⟩ := h
        have q' : v = .bl true := q
        subst q'
        obtain rfl : u = Value.bool true := r'
        refine ⟨rfl, OldK.of_keep fun b o e => ?_, os, bare⟩
        cases q : H b with
        | none => exact un.keep b o e q (by intro z; exact absurd (show b ∈ ([] : List Addr) from z) (by simp)) (by simp)
        | some u =>
          rcases hO b with z | ⟨ob, xs, z⟩
          · rw [q] at z; cases z
          · have z2 := un.frzs b ob _ z
            obtain ⟨e1, _⟩ := hok b _ z
            obtain ⟨e2, _⟩ := hok' b _ z2
            rw [e] at e1; cases e1
            exact e2
  cases hk : K.lookup a with
  | some o =>
    -- the script is one of the module's own objects
    have e := KX a o hk
    rw [ha] at e
    cases e
    refine core (fun _ => none) (fun _ => .inl rfl) (.inr ⟨_, vs.toArray, _, hk, rfl, rfl, rfl, by rw [List.size_toArray, lenV]; exact hl, by simpa using rv⟩) (fun b u z => by have z' : (none : Option HO) = some u := z; cases z') (fun b z => absurd rfl z) fun z => absurd rfl z
  | none =>
    refine core (fun b => if b = a then some (.frz { cls := .type "list", data := .seq vs.toArray } (.lst (ns.map V.int))) else none) (fun b => ?_) (.inl (.inr ⟨{ cls := .type "list", data := .seq vs.toArray }, if_pos rfl⟩)) (fun b u z => ?_) (fun b z => ?_) fun _ => hk
    · by_cases hb : b = a
      · exact .inr ⟨_, _, if_pos hb⟩
      · exact .inl (if_neg hb)
    · by_cases hb : b = a
      · have z' := (if_pos hb).symm.trans z
        cases z'
        subst hb
        exact ⟨ha, by rw [List.length_map]; exact hl, vs, _, rv, ha⟩
      · have z' := (if_neg hb).symm.trans z
        cases z'
    · by_cases hb : b = a
      · exact hb
      · exact absurd (if_neg hb) z
end L2

namespace L2
open PySem PySem.Spec PyProof.Rows

abbrev KOf {K : PySem.W.Frag} {h : Heap} (_ : K.In h) : PySem.W.Frag := K

/-- the goal that k_head leaves (case hc), from the law's promise. F gives the function object fd (K's own) once, then the promise over every base -/
theorem walk_of {l : PySem.W.OpenLaw} {n k : Nat} {q : Program} {loose : List Str} {XP : (Str → Option Value) → Heap → Prop} {YP : World → Heap → Prop} {d : DefRec} {K : Params → PySem.W.Frag} {CX : World → CXT} {sp : World → Sp} {x : Str}
    (hn : l.most = some n) (hn2 : n ≤ sizeLine) (hdf : d.params.defaults = []) (hr : Room k callerA)
    (hY : ∀ (w : World) (h : Heap), YP w h → (K w.params).In h)
    (F : ∀ (w : World) (mg : Str → Option Value) (fa : Addr) (h : Heap), (K w.params).In h → h.Ns mainGlobals mg → mg d.name = some (.ref fa) →
      ∃ fd : FuncData, (∀ (s : Shared) (u : Value), BindsTo s fd ⟨[u], []⟩ [(x, u)]) ∧
        ∀ base : Heap, (K w.params).In base → base.Ns mainGlobals mg → FnOk l.prog w (K w.params) mg base (CX w) k fa fd [x] (sp w))
    (hsp : ∀ (w : World) (H : Hp) (a : Addr) (ns : List Int), ns.length ≤ n → Only H → SqL (K w.params) H a (ns.map V.int) → sp w [.ref a] H (fun v _ => v = .bl true) fun _ _ _ => False)
    (hCX : ∀ (w : World) (H : Hp) (s : Shared) (e : Value) (s' : Shared), CX w [] H s (fun _ _ _ => False) e s' → False) :
    PySem.W.WalkO q loose XP YP l.row.toRowW d [] (fun f vs => PySem.call f vs) := by
  refine Att.attach_call hn hdf fun w s₀ s₁ mg mb fa o pm cd doc a vs ns G Y ho hd hcd hmg hobj hints hlen hg => ?_
  have KX := hY w _ Y
  obtain ⟨fd, hb, hF⟩ := F w mg fa _ KX G.T.g hmg
  exact law_call KX G.T.g G.T.b G.T.builtins G.T.nolimit hg hobj hints (Nat.le_trans hlen hn2) hr hF hb (fun H hO hS => hsp w H a ns hlen hO hS) fun H e s' => hCX w H s₁ e s'
/-- the same where the promise hangs on the written part alone: (sp := My.sp_law), no hole under a binder -/
theorem walk_ofK {l : PySem.W.OpenLaw} {n k : Nat} {q : Program} {loose : List Str} {XP : (Str → Option Value) → Heap → Prop} {YP : World → Heap → Prop} {d : DefRec} {K : Params → PySem.W.Frag} {CX : CXT} {sp : PySem.W.Frag → Sp} {x : Str}
    (hn : l.most = some n) (hn2 : n ≤ sizeLine) (hdf : d.params.defaults = []) (hr : Room k callerA)
    (hY : ∀ (w : World) (h : Heap), YP w h → (K w.params).In h)
    (F : ∀ (w : World) (mg : Str → Option Value) (fa : Addr) (h : Heap), (K w.params).In h → h.Ns mainGlobals mg → mg d.name = some (.ref fa) →
      ∃ fd : FuncData, (∀ (s : Shared) (u : Value), BindsTo s fd ⟨[u], []⟩ [(x, u)]) ∧
        ∀ base : Heap, (K w.params).In base → base.Ns mainGlobals mg → FnOk l.prog w (K w.params) mg base CX k fa fd [x] (sp (K w.params)))
    (hsp : ∀ (K : PySem.W.Frag) (H : Hp) (a : Addr) (ns : List Int), ns.length ≤ n → Only H → SqL K H a (ns.map V.int) → sp K [.ref a] H (fun v _ => v = .bl true) fun _ _ _ => False)
    (hCX : ∀ (H : Hp) (s : Shared) (e : Value) (s' : Shared), CX [] H s (fun _ _ _ => False) e s' → False) :
    PySem.W.WalkO q loose XP YP l.row.toRowW d [] (fun f vs => PySem.call f vs) :=
  walk_of (K := K) (CX := fun _ => CX) (sp := fun w => sp (K w.params)) hn hn2 hdf hr hY F (fun w H a ns h1 h2 h3 => hsp (K w.params) H a ns h1 h2 h3) fun _ H s e s' => hCX H s e s'
end L2

/- THE LAST THEOREM (shape; LID, My.* are yours):
   My.Adr: a structure of the addresses that your layer names (classes, functions); My.Txt K t: a structure (Prop) of the equations over K;
   My.txt_mk : {K} {implicit addresses ..} (e1 : nsIn K mainGlobals "law" = some (some (.ref f))) (e2 : K.lookup f = some ⟨oc, od, .func (fnOf "law" "law" params body scope dV kV doc pm an cdv ct), sl⟩) (e3 : codeIn K cdv "law" = true) .. : ∃ t, My.Txt K t

set_option maxRecDepth 100000 in
set_option maxHeartbeats 0 in
theorem PySem.Challenge.cw_LID_holds : PySem.Challenge.rw_LID.Holds := by
  w_on; o_law; k_head; (case hw => w_witness2)
  k_fill
  refine L2.walk_of (l := PySem.Challenge.rw_LID) (n := 63) (k := 40) (x := "script") (CX := fun w => ..) (sp := fun _ => My.sp_law) rfl (by decide) rfl ⟨rfl, by decide, by decide⟩ (fun w h Y => PySem.W.kIn_of Y) ?F ?S ?C
  case F =>
    intro w mg fa h KX G hmg
    have T : ∃ t, My.Txt (L2.KOf KX) t := by
      dsimp only [L2.KOf]                          -- K must stand as «<heap const> w.params» for k_is
      refine' My.txt_mk ?e1 ?e2 ?e3 ..
      (case e1 => PySem.W.k_is)                    -- in the order: a name -> its address -> its object -> its parts
      (case e2 => PySem.W.k_is)
      ..
    obtain ⟨t, T⟩ := T
    have e0 := hmg.symm.trans (PySem.W.mg_of KX G T.law)
    cases e0                                       -- fa is the law's own address
    exact ⟨_, fun s u => .of_eq rfl, fun base kb nb => My.law_fn T kb nb⟩     -- if «.of_eq rfl» comes too early: refine' ⟨_, ?b, fun base kb nb => My.law_fn T kb nb⟩; exact fun s u => .of_eq rfl
  case S => exact fun w H a ns hl hO hS => ..
  case C => exact ..
(the tactic k_is has no namespace: write k_is) -/

/-! SHORT WORDS over the layer: a def of the text, its body, what a loop and a test want. -/
namespace L2
open PySem PySem.Spec PyProof.Rows

/-! ### the text by places -/
/-- the j-th statement of a class's body -/
def inClass (s : Stmt) (j : Nat) : Stmt := match s with
  | .ClassDef _ _ _ body _ _ _ _ _ _ _ => body.getD j (.Pass ⟨0, 0, 0, 0⟩)
  | _ => .Pass ⟨0, 0, 0, 0⟩
def defArgs (s : Stmt) : Arguments := match s with
  | .FunctionDef _ a _ _ _ _ _ _ _ _ => a
  | _ => { posonlyargs := [], args := [], vararg := none, kwonlyargs := [], kw_defaults := [], kwarg := none, defaults := [] }
def defBody (s : Stmt) : List Stmt := match s with
  | .FunctionDef _ _ b _ _ _ _ _ _ _ => b
  | _ => []
def defScope (s : Stmt) : Scope := match s with
  | .FunctionDef _ _ _ _ _ _ sc _ _ _ => sc
  | _ => { kind := .function, names := [], isGenerator := false, isCoroutine := false }

/-! ### no exception leaves a def -/
abbrev CX0 : CXT := fun _ _ _ _ _ _ => False
abbrev E0 : XK := fun _ _ _ => False
theorem pass0 {X : Cx} : Passes CX0 X E0 := fun _ _ _ _ _ _ _ h => h.elim

/-! ### a def (or method) of the text as it stands behind the top -/
structure Fun (K : PySem.W.Frag) (x qual : Str) (st : Stmt) (f : Addr) (fd : FuncData) : Prop where
  ex : ∃ (oc : Value) (od : Option Addr) (kV doc pm : Value) (an : Option Addr) (cdv ct : Value) (osl : Array (Option Value)),
    fd = PySem.W.fnOf x qual (defArgs st) (defBody st) (defScope st) .none kV doc pm an cdv ct ∧ K.lookup f = some ⟨oc, od, .func fd, osl⟩ ∧ PySem.W.codeIn K cdv qual = true
  kp : PySem.W.keepIn K (.ref f) = true
section
variable {P : Program} {w : World} {K : PySem.W.Frag} {mg : Str → Option Value} {base : Heap}
/-- THE RULE for a def: its body as a term of rules, and the reading of that term -/
theorem Fun.ok {x qual : Str} {st : Stmt} {f : Addr} {fd : FuncData} {N ps : List Str} {k : Nat} {sp : Sp} (F : Fun K x qual st f fd) (S : FnScope N ps (defScope st)) (len : ∀ vs H Q E, sp vs H Q E → vs.length = ps.length)
    (hbody : ∀ (cdv : Value) (A : Around) (outer : List Env) (s : Shared) (H : Hp) (vs : List V) (Q : VK) (E : XK), Room k (A.deeper (envOfC qual (defScope st) s.heap.objs.size f cdv)) → sp vs H Q E →
      ∃ t, PSs (cxOf CX0 P w K mg base N qual (defScope st) f cdv A outer s H E).nox (defBody st) t ∧ t { nx := fun _ H' => Q .non H', rt := Q } (start N vs) H) : FnOk P w K mg base CX0 (k + 1) f fd ps sp := by
  obtain ⟨oc, od, kV, doc, pm, an, cdv, ct, osl, rfl, lk, hcd⟩ := F.ex
  refine fn_of lk hcd S len fun A outer s H vs Q E hr hsp => ?_
  obtain ⟨t, h, q⟩ := hbody cdv A outer s H vs Q E hr hsp
  exact ⟨t, h.nox, q⟩
/-- how its arguments bind (no defaults): h is «fun _ _ _ _ _ _ us hl => match us, hl with | [_, _], _ => rfl», one _ a parameter -/
theorem Fun.binds {x qual : Str} {st : Stmt} {f : Addr} {fd : FuncData} {ps : List Str} (F : Fun K x qual st f fd)
    (h : ∀ (kV doc pm : Value) (an : Option Addr) (cdv ct : Value) (us : List Value), us.length = ps.length → bindArgs (PySem.W.fnOf x qual (defArgs st) (defBody st) (defScope st) .none kV doc pm an cdv ct) ⟨us, []⟩ = pure (ps.zip us)) : Binds K fd ps [] := by
  obtain ⟨oc, od, kV, doc, pm, an, cdv, ct, osl, rfl, lk, hcd⟩ := F.ex
  exact .all (h kV doc pm an cdv ct)
theorem fun_mk {x qual : Str} {st : Stmt} {f : Addr} {oc : Value} {od an : Option Addr} {osl : Array (Option Value)} {kV doc pm cdv ct : Value} (l : K.lookup f = some ⟨oc, od, .func (PySem.W.fnOf x qual (defArgs st) (defBody st) (defScope st) .none kV doc pm an cdv ct), osl⟩)
    (c : PySem.W.codeIn K cdv qual = true) (k : PySem.W.keepIn K (.ref f) = true) : Fun K x qual st f (PySem.W.fnOf x qual (defArgs st) (defBody st) (defScope st) .none kV doc pm an cdv ct) := ⟨⟨oc, od, kV, doc, pm, an, cdv, ct, osl, rfl, l, c⟩, k⟩
end
theorem hu_of {A : Around} {k : Nat} (hr : Room k A) : A.units + 1 < cLine := Nat.lt_of_le_of_lt (Nat.add_le_add_left (by decide : 1 ≤ 64) _) hr.units
theorem small1000 {n : Nat} (h : n ≤ 1000) : n < sizeLine := Nat.lt_of_le_of_lt h (by decide)

/-! ### expressions in short: the name that stands in the i-th slot -/
section
variable {X : Cx}
theorem pv (i : Nat) {x : Str} {pos : Pos} (hN : X.N[i]? = some x := by rfl) (hv : Vis X.env.scope x := by first | exact Or.inl rfl | exact Or.inr (Or.inl rfl) | exact Or.inr (Or.inr rfl)) (hd : (x == ("__debug__" : Str)) = false := by decide)
    (hcd : (x == ("__classdict__" : Str)) = false := by decide) : PE X (.Name x pos) (tVar i) := pe_var hN hv hd hcd
end

/-! ### tests -/
theorem iteF {A B : Prop} (h : B) : if false = true then A else B := by
  rw [if_neg Bool.false_ne_true]
  exact h
theorem iteT {A B : Prop} (h : A) : if true = true then A else B := by
  rw [if_pos rfl]
  exact h
theorem ite2 {c A B : Prop} [Decidable c] (h1 : c → A) (h2 : ¬ c → B) : if c then A else B := by
  by_cases h : c
  · rw [if_pos h]
    exact h1 h
  · rw [if_neg h]
    exact h2 h
theorem iteNS {c A B : Prop} [Decidable c] (hc : c) (h : B) : if (!decide c) = true then A else B := by
  rw [decide_eq_true hc]
  exact iteF h

/-! ### heaps -/
/-- all that was tracked is as it was -/
def Same (H H' : Hp) : Prop := ∀ b o, H b = some o → H' b = some o
theorem Same.refl (H : Hp) : Same H H := fun _ _ h => h
theorem Same.trans {H H1 H2 : Hp} (a : Same H H1) (b : Same H1 H2) : Same H H2 := fun c o h => b c o (a c o h)
theorem Same.free {H H' : Hp} (e : Same H H') {l : Addr} (h : H' l = Option.none) : H l = Option.none := by
  cases q : H l with
  | none => rfl
  | some o =>
    rw [e l o q] at h
    cases h
theorem Same.seq {K : PySem.W.Frag} {H H' : Hp} {a : Addr} {xs : List V} (e : Same H H') (h : SqL K H a xs) : SqL K H' a xs := by
  rcases h with (h | ⟨o, h⟩) | h
  · exact .inl (.inl (e _ _ h))
  · exact .inl (.inr ⟨o, e _ _ h⟩)
  · exact .inr h

end L2

set_option Elab.async false
set_option linter.all false
set_option maxRecDepth 100000
set_option maxHeartbeats 4000000
namespace L2
open PySem PySem.Spec PyProof.Rows
open Builtin.Int (intBits)
/-! ### numbers by their bits -/
abbrev Bt (n : Nat) (i : Int) : Prop := intBits i ≤ n
theorem Bt.le {m n : Nat} {i : Int} (h : Bt m i) (q : m ≤ n := by decide) : Bt n i := Nat.le_trans h q
theorem bt_abs {n : Nat} {i : Int} (h : i.natAbs < 2 ^ n) : Bt n i := PySem.intBits_le_iff.mpr h
theorem Bt.abs {n : Nat} {i : Int} (h : Bt n i) : i.natAbs < 2 ^ n := PySem.intBits_le_iff.mp h
theorem Bt.of_abs {n : Nat} {i j : Int} (h : Bt n j) (q : i.natAbs ≤ j.natAbs) : Bt n i := PySem.intBits_le_of_natAbs q h
theorem Bt.add {m n : Nat} {i j : Int} (h : Bt m i) (q : Bt n j) : Bt (max m n + 1) (i + j) := PySem.intBits_add_le h q
theorem Bt.sub {m n : Nat} {i j : Int} (h : Bt m i) (q : Bt n j) : Bt (max m n + 1) (i - j) := PySem.intBits_sub_le h q
theorem Bt.mul {m n : Nat} {i j : Int} (h : Bt m i) (q : Bt n j) : Bt (m + n) (i * j) := PySem.intBits_mul_le h q
theorem Bt.neg {m : Nat} {i : Int} (h : Bt m i) : Bt m (-i) := PySem.intBits_neg_le h
def CMulB (i j : Int) : Prop := Bt 60000000 i ∧ Bt 60000000 j
def CDivB (_ j : Int) : Prop := j ≠ 0 ∧ Bt 9000 j
def CDivP (_ j : Int) : Prop := 0 < j ∧ Bt 9000 j
theorem log_of_bt {j : Int} (h0 : j ≠ 0) (h : Bt 9000 j) : j.natAbs.log2 < 9000 := by
  have e : intBits j = j.natAbs.log2 + 1 := by
    unfold Builtin.Int.intBits
    rw [if_neg (by simpa using h0)]
  have h' : intBits j ≤ 9000 := h
  omega
section
variable {X : Cx} {a b c : Expr} {ta tb tc : TE} {pos : Pos}
theorem op_mulB : OpR X (binaryOp .Mult) (rI CMulB fun i j => .int (i * j)) := opI fun _ _ _ _ _ _ _ hc q => mul_int q (IntMulOk.of_le hc.1 hc.2 (by decide))
theorem op_fdivB : OpR X (binaryOp .FloorDiv) (rI CDivB fun i j => .int (i.fdiv j)) := opI fun _ _ _ _ _ _ _ hc q => floordiv_int hc.1 q (.inl (PyProof.noPylong_of_log2 (log_of_bt hc.1 hc.2)))
theorem op_fdivP : OpR X (binaryOp .FloorDiv) (rI CDivP fun i j => .int (i / j)) := opI fun i j _ _ _ _ _ hc q => by
  have h1 : (0 : Int) < j := hc.1
  exact floordiv_int (by omega) (by rw [Int.fdiv_eq_ediv_of_nonneg i (by omega)]; exact q) (.inl (PyProof.noPylong_of_log2 (log_of_bt (by omega) hc.2)))
/-! ### isinstance of a built-in class -/
def rIsi (K : PySem.W.Frag) : List V → Hp → VK → Prop := fun xs H Q => ∃ x T t k, xs = [x, .ty T] ∧ TyOf K H x t ∧ PySem.W.kitOne K t (.type T) = some k ∧ Q (.bl k) H
theorem call_isi : CallR X (.builtin "isinstance") (rIsi X.K) := by
  intro pins s σ H xs us Q I r h
  obtain ⟨x, T, t, k, rfl, ty, e, q⟩ := h
  obtain ⟨u, v, rfl, rx, ry⟩ := vals2 r
  cases (show v = Value.type T from ry)
  exact isinst_ok I rx ty e fun tk => ⟨.bl k, H, I.tok tk, rfl, q⟩
end
/-! ### data all the way down -/
mutual
def Rp (K : PySem.W.Frag) (H : Hp) : PyData → V → Prop
  | .none, v => v = .non
  | .bool b, v => v = .bl b
  | .int i, v => v = .int i
  | .str x, v => v = .str x
  | .list ds, v => ∃ a xs, v = .ref a ∧ SqL K H a xs ∧ RpL K H ds xs
  | .tuple ds, v => ∃ a xs, v = .ref a ∧ SqT K H a xs ∧ RpL K H ds xs
  | .dict _, _ => False
def RpL (K : PySem.W.Frag) (H : Hp) : List PyData → List V → Prop
  | [], xs => xs = []
  | d :: ds, xs => ∃ x r, xs = x :: r ∧ Rp K H d x ∧ RpL K H ds r
end
theorem Same.seqT {K : PySem.W.Frag} {H H' : Hp} {a : Addr} {xs : List V} (e : Same H H') (h : SqT K H a xs) : SqT K H' a xs := by
  rcases h with (h | ⟨o, h⟩) | h
  · exact .inl (.inl (e _ _ h))
  · exact .inl (.inr ⟨o, e _ _ h⟩)
  · exact .inr h
mutual
theorem Rp.same {K : PySem.W.Frag} {H H' : Hp} (e : Same H H') : ∀ (d : PyData) {v : V}, Rp K H d v → Rp K H' d v
  | .none, _, h => by simpa [Rp] using h
  | .bool _, _, h => by simpa [Rp] using h
  | .int _, _, h => by simpa [Rp] using h
  | .str _, _, h => by simpa [Rp] using h
  | .list ds, _, h => by
    rw [Rp] at h ⊢
    obtain ⟨a, xs, h1, h2, h3⟩ := h
    exact ⟨a, xs, h1, e.seq h2, RpL.same e ds h3⟩
  | .tuple ds, _, h => by
    rw [Rp] at h ⊢
    obtain ⟨a, xs, h1, h2, h3⟩ := h
    exact ⟨a, xs, h1, e.seqT h2, RpL.same e ds h3⟩
  | .dict _, _, h => by simp [Rp] at h
theorem RpL.same {K : PySem.W.Frag} {H H' : Hp} (e : Same H H') : ∀ (ds : List PyData) {xs : List V}, RpL K H ds xs → RpL K H' ds xs
  | [], _, h => by simpa [RpL] using h
  | d :: ds, _, h => by
    rw [RpL] at h ⊢
    obtain ⟨x, r, h1, h2, h3⟩ := h
    exact ⟨x, r, h1, Rp.same e d h2, RpL.same e ds h3⟩
end
section
variable {X : Cx} {pins : List (Addr × Obj)} {σ : St} {H : Hp} {s : Shared}
mutual
theorem Rp.reads (I : Inv X pins σ H s) : ∀ (d : PyData) {v : V} {u : Value}, Rp X.K H d v → RelV v u → ∃ as, Reads s.heap u d as
  | .none, v, u, h, r => by
    rw [Rp] at h; subst h
    cases (show u = Value.none from r); exact ⟨_, .none⟩
  | .bool b, v, u, h, r => by
    rw [Rp] at h; subst h
    cases (show u = Value.bool b from r); exact ⟨_, .bool b⟩
  | .int i, v, u, h, r => by
    rw [Rp] at h; subst h
    obtain ⟨t, rfl⟩ := (show ∃ t, u = Value.int i t from r); exact ⟨_, .int i t⟩
  | .str x, v, u, h, r => by
    rw [Rp] at h; subst h
    obtain ⟨t, rfl⟩ := (show ∃ t, u = Value.str x t from r); exact ⟨_, .str x t⟩
  | .list ds, v, u, h, r => by
    rw [Rp] at h
    obtain ⟨a, xs, rfl, h2, h3⟩ := h
    cases (show u = Value.ref a from r)
    obtain ⟨its, hv, ⟨o, n, e, hc, _, hd⟩, _⟩ := I.list h2
    obtain ⟨as, q⟩ := RpL.reads I ds h3 hv
    exact ⟨_, .list e hc hd (by simpa using q)⟩
  | .tuple ds, v, u, h, r => by
    rw [Rp] at h
    obtain ⟨a, xs, rfl, h2, h3⟩ := h
    cases (show u = Value.ref a from r)
    obtain ⟨its, hv, ⟨o, e, hc, n, hd⟩, _⟩ := I.tuple h2
    obtain ⟨as, q⟩ := RpL.reads I ds h3 hv
    exact ⟨_, .tuple e hc hd (by simpa using q)⟩
  | .dict _, v, u, h, r => by simp [Rp] at h
theorem RpL.reads (I : Inv X pins σ H s) : ∀ (ds : List PyData) {xs : List V} {us : List Value}, RpL X.K H ds xs → Vals xs us → ∃ as, ReadsAll s.heap us ds as
  | [], xs, us, h, r => by
    rw [RpL] at h; subst h
    cases r; exact ⟨_, .nil⟩
  | d :: ds, xs, us, h, r => by
    rw [RpL] at h
    obtain ⟨x, t, rfl, h2, h3⟩ := h
    cases r with
    | cons r1 r2 =>
      obtain ⟨as, q⟩ := Rp.reads I d h2 r1
      obtain ⟨bs, q'⟩ := RpL.reads I ds h3 r2
      exact ⟨_, .cons q q'⟩
end
end
section
variable {X : Cx}
def rEqD (K : PySem.W.Frag) (neg : Bool) : R2 := fun x y H Q => ∃ d e, Rp K H d x ∧ Rp K H e y ∧ PySem.SeqAt.shaped d = true ∧ PySem.SeqAt.shaped e = true ∧ Q (.bl (if neg then !PyData.eqv d e else PyData.eqv d e)) H
theorem op_eqD (hu : X.A.units + 64 < cLine) : OpR X (compareOp .Eq) (rEqD X.K false) := by
  intro pins s σ H x y v u Q I rx ry h
  obtain ⟨d, e, h1, h2, h3, h4, q⟩ := h
  obtain ⟨as, r1⟩ := Rp.reads I d h1 rx
  obtain ⟨bs, r2⟩ := Rp.reads I e h2 ry
  exact eq_dataH r1 r2 h3 h4 hu ⟨.bl (PyData.eqv d e), H, I, rfl, q⟩
theorem op_neD (hu : X.A.units + 64 < cLine) : OpR X (compareOp .NotEq) (rEqD X.K true) := by
  intro pins s σ H x y v u Q I rx ry h
  obtain ⟨d, e, h1, h2, h3, h4, q⟩ := h
  obtain ⟨as, r1⟩ := Rp.reads I d h1 rx
  obtain ⟨bs, r2⟩ := Rp.reads I e h2 ry
  exact ne_dataH r1 r2 h3 h4 hu ⟨.bl (!PyData.eqv d e), H, I, rfl, q⟩
end
/-! ### a def that may be called -/
structure Cal (P : Program) (w : World) (K : PySem.W.Frag) (mg : Str → Option Value) (base : Heap) (CX : CXT) (k : Nat) (x : Str) (ps : List Str) (sp : Sp) : Prop where
  ex : ∃ f fd, FnOk P w K mg base CX k f fd ps sp ∧ mg x = some (.ref f) ∧ PySem.W.keepIn K (.ref f) = true ∧ Binds K fd ps []
section
variable {X : Cx} {CX : CXT} {k : Nat} {ps : List Str} {sp : Sp} {E : XK} {x : Str} {p pos : Pos} {e : Expr} {es : List Expr} {t : TA}
theorem pe_fn (C : Cal X.prog X.w X.K X.mg X.base CX k x ps sp) (hr : Room k X.A) (hx : Passes CX X E) (ha : PA X (e :: es) t) (hg : Gl X x := by rfl)
    (hdb : (x == ("__debug__" : Str)) = false := by decide) (he : starEach (e :: es) X.env = (false, eval e X.env) :: starEach es X.env := by rfl) (hpl : (backTo pos (starEach es X.env)).any (·.1) = false := by rfl) :
    PE X (.Call (.Name x p) (e :: es) [] pos) (tCall sp [] E t) := by
  obtain ⟨f, fd, F, hm, hk, hb⟩ := C.ex
  exact pe_call F hr hg hm hk hb .nil hx ha hdb he hpl
end
end L2

set_option Elab.async false
set_option linter.all false
set_option maxRecDepth 100000
set_option maxHeartbeats 4000000
namespace L2
open PySem PySem.Spec PyProof.Rows
/-! ### a list comprehension of one clause, its element using no name of the def around -/
section
variable {prog : Program} {w : World} {A : Around} {R : Result → Shared → Prop} {s : Shared}
theorem compLoop_any {elt target iter : Expr} {scope : Scope} {pos : Pos} {it acc : Value} {env : Env} (I : Nat → Shared → Prop)
    (turn : ∀ n s, I n s → wpAny (model prog w) A (pyNext it) (fun r s1 => match r with
      | none => R (.ok .next) s1
      | some v => wpAny (model prog w) A (letOwnedTupleGo target it v) (fun _ s5 => wpAny (model prog w) A (assign target env v) (fun _ s2 => wpAny (model prog w) A (eval elt env) (fun x s3 =>
          wpAny (model prog w) A (call (.builtin "list.append") [acc, x]) (fun _ s4 => ∃ m, m < n ∧ I m s4) (notedBy (model prog w) A env fun e s' => R (.error e) s') s3)
          (notedBy (model prog w) A env fun e s' => R (.error e) s') s2) (notedBy (model prog w) A env fun e s' => R (.error e) s') s5) (notedBy (model prog w) A env fun e s' => R (.error e) s') s1) (notedBy (model prog w) A env fun e s' => R (.error e) s') s)
    (n : Nat) (h : I n s) :
    codeAny (model prog w) A (.compLoop (.ListComp elt [⟨target, iter, [], 0⟩] scope pos) 0 it acc env) R s := by
  refine codeAny_loop rfl I (fun n s hI => ?_) n h
  show wpAny _ _ ((compTurn (.ListComp elt [⟨target, iter, [], 0⟩] scope pos) 0 it acc env).onRaise (fun x => do noteFrame x env; theTreesLotGoes x)) _ _ s
  refine wpAny_noted ?_
  rw [compTurn_list1]
  refine wpAny_bind (wpAny_standAt (wpAny_bind (wpAny_mono (turn n s hI) (fun r s1 h1 => ?_) fun _ _ h' => h')))
  cases r with
  | none => exact wpAny_pure h1
  | some v =>
    refine wpAny_bind (wpAny_mono h1 (fun _ s5 h5 => ?_) fun _ _ h' => h')
    exact wpAny_bind (wpAny_mono h5 (fun _ s2 h2 => wpAny_bind (wpAny_bind (wpAny_mono h2 (fun x s3 h3 => wpAny_bind (wpAny_mono h3
      (fun _ s4 h4 => wpAny_pure (wpAny_pure ⟨rfl, h4⟩)) fun _ _ h' => h')) fun _ _ h' => h'))) fun _ _ h' => h')
end
/-- the comprehension's own block: its frame at C, begun at s with H; fp: the iterator's records -/
@[reducible] def Cx.comp (X : Cx) (scope : Scope) (x : Str) (C : Addr) (s : Shared) (H : Hp) (fp : List Addr) : Cx :=
  { X with N := [x], s₀ := s, H₀ := H, env := compEnvC scope [] C X.env, outer := X.stack, stack := X.stack, ex := fp, pn := [], fn := fun _ => true, xe := fun _ _ => False }
def LcW (J : It) (te : TE) (Q : VK) (H1 : Hp) : Prop := ∃ W : Nat → Nat → List V → Hp → Prop, (∃ m, W 0 m [] H1) ∧ ∀ i m ys H, W i m ys H →
  ys.length < sizeLine ∧ ((J.stop i H ∧ ∀ p, H p = none → Q (.ref p) (upd H p (.lst ys))) ∨ (J.go i H ∧ ∀ x H', J.yld i H x H' → te [some x] H' fun y H2 => ∃ m', m' < m ∧ W (i + 1) m' (ys ++ [y]) H2))
def tLc (wi : TI) (te : TE) : TE := fun σ H Q => wi σ H fun J H1 => LcW J te Q H1
section
variable {P : Program} {w : World} {H : Hp} {h h' : Heap} {a : Addr} {o : HO}
/-- an object that stood there untracked is tracked from now on -/
theorem HOk.track (x : HOk P w H h) (hn : H a = none) (new : ObjOk P w (upd H a o) h a o) : HOk P w (upd H a o) h := fun b u e => by
  by_cases hb : b = a
  · subst hb; rw [upd_same] at e; cases e; exact new
  · rw [upd_ne hb] at e
    exact (x b u e).stay (fun c v _ q => q) (fun c q => by rw [upd_ne (ne_of_none q hn)]; exact q) fun c xs q => by rw [upd_ne (ne_of_none q hn)]; exact q
/-- an untracked object has changed -/
theorem HOk.other (x : HOk P w H h) (hn : H a = none) (k : ∀ b u, b ≠ a → h.get? b = some u → h'.get? b = some u) : HOk P w H h' := fun b u e => by
  have nit : ∀ c v, H c = some v → c ≠ a := fun c v q z => by rw [z, hn] at q; cases q
  refine (x b u e).stay (fun c v hc q => k c v ?_ q) (fun _ q => q) fun _ _ q => q
  rcases hc with z | z
  · rw [z]; exact nit b u e
  · exact nit c _ z
end
theorem mem_lookup {k : NameKind} {y : Str} : ∀ {l : List (Str × NameKind)}, l.lookup y = some k → (y, k) ∈ l
  | [], h => by simp at h
  | (n, j) :: r, h => by
    rw [List.lookup_cons] at h
    by_cases e : y = n
    · subst e
      simp at h
      subst h
      exact List.mem_cons_self
    · have : (y == n) = false := by simpa using e
      rw [this] at h
      exact List.mem_cons_of_mem _ (mem_lookup h)
section
variable {X : Cx} {pins : List (Addr × Obj)} {σ : St} {H : Hp} {s : Shared}
/-- the state at the block's start -/
theorem Inv.comp {scope : Scope} {x : Str} {C : Addr} {fp : List Addr} {h1 : Heap} {t1 : Nat} (I : Inv X pins σ H s) (hk : scope.kind = .function) (hx : scope.names.lookup x = some .local) (hfree : ∀ y ∈ scope.names, y.2 ≠ .free) (hcell : ∀ y ∈ scope.names, y.2 ≠ .cell)
    (hC : s.heap.objs.size ≤ C) (hfp : ∀ b ∈ fp, FpOk X pins H b) (hfo : ∀ b ∈ fp, b < s.heap.objs.size) (keep : ∀ b o, s.heap.get? b = some o → h1.get? b = some o) (hns : ∃ m, h1.Ns C m) (hc : X.calm = true) :
    Inv (X.comp scope x C s H fp) [] [none] H { s with heap := h1, toks := t1 } := by
  have nofs : ∀ b ∈ fp, b ∉ frs X.stack := fun b hb z => by
    rcases List.mem_cons.mp (I.stkSub b z) with q | q
    · exact (hfp b hb).2.1 q
    · exact (hfp b hb).2.2.1 q
  have nobase : ∀ b o, X.base.get? b = some o → b ∉ fp := fun b o e hb => by
    have e2 := (I.ok.bs b o e).1
    rcases (hfp b hb).2.2.2.1 with z | z
    · exact I.ok.noex b o e z
    · exact absurd (Nat.lt_of_lt_of_le (Heap.lt_size e2) z) (Nat.lt_irrefl _)
  have kn : ∀ y, (compEnvC scope [] C X.env).kindOf y ≠ some .cell ∧ (compEnvC scope [] C X.env).kindOf y ≠ some .free := fun y => by
    have e : (compEnvC scope [] C X.env).scope.names = scope.names := by
      show (scope.names.map fun z => if (z.2 == .free && X.env.scope.kind == .function && X.env.kindOf z.1 == some .cell) then (z.1, NameKind.cell) else (z.1, z.2)) = scope.names
      refine map_eq_self fun z hz => ?_
      have : (z.2 == NameKind.free) = false := by simpa using hfree z hz
      simp [this]
    constructor
    all_goals
      intro q
      have q' : (compEnvC scope [] C X.env).scope.names.lookup y = some _ := q
      rw [e] at q'
      have hm : (y, _) ∈ scope.names := mem_lookup q'
    · exact hcell _ hm rfl
    · exact hfree _ hm rfl
  obtain ⟨m1, hm1⟩ := hns
  refine ⟨⟨I.ok.mod, hk, I.ok.glob, I.ok.blt, hC, (fun y z c e => by cases e), (fun y q => ?_), (fun y c _ e => by cases e), (fun _ => I.ok.hd hc), I.ok.frames, .inl rfl, (fun b hb => ⟨Nat.ne_of_lt (Nat.lt_of_lt_of_le (hfo b hb) hC), (fun y c e => by cases e)⟩), (fun b o e => ⟨I.bk b o e, (I.bs b o e).2⟩), Nat.le_trans I.ok.bsz I.sz, nobase, nofs, I.stack, I.stkFree⟩,
    rfl, I.bare, Un.kept keep, ⟨m1, hm1, (fun i y v e1 e2 => ?_)⟩, (fun y c e => by cases e), I.hok.fresh hC, (fun y c e => by cases e), (fun p hp => by simp at hp), I.hok.kept keep, rfl⟩
  · rcases q with q | q
    · exact absurd q (kn y).1
    · exact absurd q (kn y).2
  · cases i with
    | zero => simp at e2
    | succ i => simp at e2
/-- [elt for x in iter] -/
theorem pe_lc {elt iter : Expr} {x : Str} {px pos : Pos} {scope : Scope} {wi : TI} {te : TE} (hc : X.calm = true) (hi : PI X (.Name x px) iter wi) (hk : scope.kind = .function) (hx : scope.names.lookup x = some .local) (hfree : ∀ y ∈ scope.names, y.2 ≠ .free) (hcell : ∀ y ∈ scope.names, y.2 ≠ .cell)
    (hnames : ∀ y ∈ scope.names, y.2 = .local → scope.names.lookup y.1 = some .local)
    (he : ∀ (C : Addr) (s : Shared) (H : Hp) (fp : List Addr), PE (X.comp scope x C s H fp) elt te) (hs : ∀ x, foldedSetIterable iter X.env x = pure x := by intro _; rfl) : PE X (.ListComp elt [⟨.Name x px, iter, [], 0⟩] scope pos) (tLc wi te) := by
  intro pins s σ H Q I h
  rw [eval_ListComp]
  refine wpAny_comprehension_free (use := none) rfl hs (closureFor_none hfree) hk hnames (thn (hi pins s σ H _ I h) fun v s1 h1 => thn h1 fun itv s2 h2 => ?_)
  obtain ⟨it, fp, tn, J, H2, e, I2, T, st2, f2, W, ⟨m0, w0⟩, turn⟩ := h2
  subst e
  have hfo : ∀ b ∈ fp, b < s2.heap.objs.size := fun b hb => by
    obtain ⟨o, e, _⟩ := T.obj _ _ st2 b hb
    exact Heap.lt_size e
  refine wpAny_newObj_type (wpAny_newFunctionEnv hcell (by intro y hy; simp at hy) (fun g1 hns1 hsb1 => ?_) hk)
  dsimp only at hns1 hsb1 ⊢
  generalize hG2 : s2.heap.push { cls := .type "list", dict := none, data := .seq ([] : List Value).toArray } = G2 at hns1 hsb1 ⊢
  have hC : G2.objs.size = s2.heap.objs.size + 1 := by rw [← hG2, Heap.size_push]
  have hDC : s2.heap.objs.size ≠ G2.objs.size := by rw [hC]; exact Nat.ne_of_lt (Nat.lt_succ_self _)
  have below : ∀ b, b < s2.heap.objs.size → b ≠ G2.objs.size ∧ b ≠ s2.heap.objs.size := fun b hb => ⟨by rw [hC]; exact Nat.ne_of_lt (Nat.lt_succ_of_lt hb), Nat.ne_of_lt hb⟩
  have old : ∀ b o, s2.heap.get? b = some o → g1.get? b = some o := fun b o e => hsb1.extBut b o (below b (Heap.lt_size e)).1 (Heap.get?_push_of_some _ (hG2 ▸ Heap.get?_push_of_some _ e))
  have hacc : g1.get? s2.heap.objs.size = some { cls := .type "list", data := .seq ([] : List Value).toArray 0 } := hsb1.extBut _ _ hDC (Heap.get?_push_of_some _ (hG2 ▸ Heap.get?_push_size _ rfl))
  have hCge : s2.heap.objs.size ≤ G2.objs.size := by rw [hC]; exact Nat.le_succ _
  generalize hCC : G2.objs.size = C at *
  generalize hDD : s2.heap.objs.size = D at *
  let Y : Cx := X.comp scope x C s2 H2 fp
  have hN : Y.N.Nodup := by simp [Y]
  have hloc : Y.env.scope.names.lookup x = some .local := lookup_relabel_local hx
  have IY : Inv Y [] [none] H2 { s2 with heap := g1, toks := s2.toks + ([] : List (Str × Value)).length } := I2.comp hk hx hfree hcell (by rw [hDD]; exact hCge) f2 (by rw [hDD]; exact hfo) old ⟨_, hns1⟩ hc
  have fpD : ∀ b ∈ fp, b ≠ D := fun b hb => (below b (hfo b hb)).2
  have fpC : ∀ b ∈ fp, b ≠ C := fun b hb => (below b (hfo b hb)).1
  have H2D : H2 D = none := I2.hok.fresh (by rw [hDD]; exact Nat.le_refl _)
  have Dnf : D ∉ frs X.stack := fun z => by
    obtain ⟨_, o, e, _⟩ := I2.stack.mem z
    exact absurd (Heap.lt_size e) (by rw [hDD]; exact Nat.lt_irrefl _)
  have stat : ∀ {H' : Hp} {pl : List (Addr × Obj)}, (∀ b ∈ fp, H' b = none) → (∀ p ∈ pl, p.1 = D) → ∀ b ∈ fp, FpOk Y pl H' b := fun hn hp b hb => ⟨hn b hb, fpC b hb, (fun z => IY.ok.exfs b hb z), .inl hb, (fun y c e => by cases e), fun p hp' z => fpD b hb (z.symm.trans (hp p (by simpa [Y] using hp')))⟩
  have loop : ∀ s3 : Shared, s3 = { s2 with heap := g1, toks := s2.toks + ([] : List (Str × Value)).length } →
      codeAny (model X.prog X.w) X.A (.compLoop (.ListComp elt [⟨.Name x px, iter, [], 0⟩] scope pos) 0 (.ref it) (.ref D) (compEnvC scope [] C X.env)) (compPost (model X.prog X.w) X.A X.xe none (EP X pins σ Q) (.ref D) C) s3 := by
    intro s3 e3
    refine compLoop_any (fun n s' => ∃ i ys its σ' H', Inv Y [] σ' H' s' ∧ s'.heap.get? D = some { cls := .type "list", data := .seq (its : List Value).toArray its.length } ∧ Vals ys its ∧ H' D = none ∧ tn i s'.heap ∧ (∀ b ∈ fp, H' b = none) ∧ W i n ys H') ?_ m0 ⟨0, [], [], [none], H2, e3 ▸ IY, ?_, .nil, H2D, ?_, fun b hb => (f2 b hb).1, w0⟩
    · rintro n s4 ⟨i, ys, its, σ4, H4, I4, hD4, hv4, hn4, st4, fr4, w4⟩
      obtain ⟨hsz, step⟩ := turn i n ys H4 w4
      have hl4 : ys.length = its.length := hv4.length
      have I4p : Inv Y [(D, { cls := .type "list", data := .seq its.toArray its.length })] σ4 H4 s4 := I4.pins_of fun p hp => by
        rw [List.mem_singleton.mp hp]
        exact ⟨hD4, hn4, hDC, Dnf, fun v z => by cases z⟩
      have one : ∀ p ∈ [((D : Addr), ({ cls := .type "list", data := .seq its.toArray its.length } : Obj))], p.1 = D := fun p hp => by rw [List.mem_singleton.mp hp]
      rcases step with ⟨stop, qn⟩ | ⟨go, step⟩
      · refine wpAny_mono (T.done Y rfl rfl rfl hc i _ s4 σ4 H4 (fun _ _ => False) I4p (stat fr4 one) st4 stop) (fun r s5 hr => ?_) fun _ _ z => z.elim
        obtain ⟨rfl, I5⟩ := hr
        have hD5 : s5.heap.get? D = some { cls := .type "list", data := .seq its.toArray its.length } := (I5.pin (D, _) (by simp)).1
        obtain ⟨m5, hm5, _⟩ := I5.loc
        refine ⟨m5, hm5, fun h' sb => ?_⟩
        have U : Un (frs X.stack) fp H2 H4 s2.heap s5.heap := I5.base
        have nC : ∀ b o, s2.heap.get? b = some o → b ≠ C := fun b o e => (below b (hDD ▸ Heap.lt_size e)).1
        have nD : ∀ b o, s2.heap.get? b = some o → b ≠ D := fun b o e => (below b (hDD ▸ Heap.lt_size e)).2
        have ex : ∀ b o, b ≠ C → s5.heap.get? b = some o → h'.get? b = some o := fun b o n e => sb.extBut b o n e
        have U' : Un (frs X.stack) fp H2 (upd H4 D (.lst ys)) s2.heap h' := ⟨fun b o e n hb hx' => ex b o (nC b o e) (U.keep b o e n hb hx'), fun b o e n hb hx' => by
            obtain ⟨sl, q⟩ := U.slot b o e n hb hx'
            exact ⟨sl, ex b _ (nC b o e) q⟩, fun b o e n hx' => by rw [upd_ne (nD b o e)]; exact U.free b o e n hx', fun b o e hx' => by
            obtain ⟨o', q⟩ := U.there b o e hx'
            exact ⟨o', ex b _ (nC b o e) q⟩, fun b xs e => by rw [upd_ne (ne_of_none (U.tups b xs e) hn4)]; exact U.tups b xs e, fun b o xs e => by rw [upd_ne (ne_of_none (U.frzs b o xs e) hn4)]; exact U.frzs b o xs e, fun b ps e => by
            obtain ⟨more, q⟩ := U.tbls b ps e
            exact ⟨more, by rw [upd_ne (ne_of_none q hn4)]; exact q⟩⟩
        have ok1 : HOk X.prog X.w H4 h' := HOk.other I5.hok I5.free fun b u n e => ex b u n e
        have ok2 : HOk X.prog X.w (upd H4 D (.lst ys)) h' := ok1.track hn4 ⟨Nat.le_of_lt hsz, its, _, hv4, ex D _ hDC hD5⟩
        exact ⟨.ref D, upd H4 D (.lst ys), I2.call' (s' := { s5 with heap := h' }) I5.os U' ok2 I5.bare (fun b hb => ⟨(f2 b hb).2.2.2.1, (f2 b hb).2.1, (f2 b hb).2.2.2.2.1, (f2 b hb).2.2.2.2.2⟩), rfl, qn D hn4⟩
      · refine wpAny_mono (T.item Y rfl rfl rfl hc i _ s4 σ4 H4 (fun _ _ => False) I4p (stat fr4 one) st4 go) (fun r s5 hr => ?_) fun _ _ z => z.elim
        obtain ⟨u, rfl, h5⟩ := hr
        refine wpAny_mono h5 (fun _ s6 h6 => ?_) fun _ _ z => z.elim
        obtain ⟨xv, H6, I6, r6, y6, st6, fr6⟩ := h6
        have hσ : σ4.set 0 (some xv) = [some xv] := by
          have hl : σ4.length = 1 := I4.len
          match σ4, hl with
          | [_], _ => rfl
        have I6p := I6.pinned (stat fr6 one) (T.obj _ _ st6)
        refine wpAny_mono ((pg_name (X := Y) (i := 0) (pos := px) hN rfl (.inl hloc) (.inl rfl)) _ s6 σ4 H6 xv u (fun σ' H' => σ' = [some xv] ∧ H' = H6) I6p r6 ⟨hσ, rfl⟩) (fun _ s7 h7 => ?_) fun _ _ z => z.elim
        obtain ⟨σ7, H7, I7, rfl, rfl⟩ := h7
        refine wpAny_mono (he C s2 H2 fp _ s7 [some xv] H7 _ I7 (step xv H7 y6)) (fun yv s8 h8 => ?_) fun _ _ z => z.elim
        obtain ⟨y, H8, I8, r8, m', hm', w8⟩ := h8
        have pD := I8.pin (D, { cls := .type "list", data := .seq its.toArray its.length }) (by simp)
        have st8 : tn (i + 1) s8.heap := T.keep _ _ _ st6 fun b hb o e => (I8.pin (b, o) (List.mem_append_right _ (List.mem_append_right _ (mem_pinsAt hb e)))).1
        have fr8 : ∀ b ∈ fp, H8 b = none := fun b hb => by
          obtain ⟨o, e, d⟩ := T.obj _ _ st6 b hb
          exact (I8.pin (b, o) (List.mem_append_right _ (List.mem_append_right _ (mem_pinsAt hb e)))).2.1
        have I8u : Inv Y [] [some xv] H8 s8 := I8.pins_of (pins' := []) fun p hp => by simp at hp
        refine append_at (hsz := by rw [List.size_toArray, ← hl4]; exact Nat.le_of_lt hsz) pD.1 fun h9 sb9 hD9 => ?_
        refine ⟨m', hm', i + 1, ys ++ [y], its ++ [yv], [some xv], H8, I8u.turned (it := D) (t' := s8.toks) (fun b o n e => sb9.extBut b o n e) pD.2.1 hDC (.inr (by rw [hDD]; exact Nat.le_refl _)) (fun y c e => by cases e) (fun p hp => by simp [Y] at hp), ?_, Vals.append hv4 (.cons r8 .nil), pD.2.1, T.keep _ _ _ st8 fun b hb o e => sb9.extBut b o (fpD b hb) e, fr8, w8⟩
        show h9.get? D = _
        rw [hD9]
        simp
    · rw [e3]; exact hacc
    · rw [e3]; exact T.keep _ _ _ st2 fun b _ o e => old b o e
  exact codeAny_compStart_list (loop _ rfl) (T.self _ 0 _ _ _ (T.keep _ _ _ st2 fun b _ o e => old b o e) (loop _ rfl))
end
end L2

set_option Elab.async false
set_option linter.all false
set_option maxRecDepth 100000
set_option maxHeartbeats 4000000
namespace Mth
/-! ### greatest common divisors, lowest fractions: plain numbers -/
theorem gcd_fmod (a b : Int) : Int.gcd b (a.fmod b) = Int.gcd a b := by
  have h := Int.fmod_add_mul_fdiv a b
  have q := Int.gcd_add_mul_left_right b (a.fmod b) (a.fdiv b)
  rw [h] at q
  rw [← q, Int.gcd_comm]
theorem gcd_emod (a b : Int) : Int.gcd b (a % b) = Int.gcd a b := by
  have h := Int.emod_add_mul_ediv a b
  have q := Int.gcd_add_mul_left_right b (a % b) (a / b)
  rw [h] at q
  rw [← q, Int.gcd_comm]
theorem natAbs_fmod_lt {a b : Int} (h : b ≠ 0) : (a.fmod b).natAbs < b.natAbs := by
  rcases Int.lt_trichotomy b 0 with hb | hb | hb
  · have h1 := Int.fmod_add_mul_fdiv (-a) (-b)
    have e : a.fmod b = -((-a).fmod (-b)) := by rw [Int.neg_fmod_neg]; omega
    have h2 := Int.fmod_nonneg_of_pos (-a) (show 0 < -b by omega)
    have h3 := Int.fmod_lt_of_pos (-a) (show 0 < -b by omega)
    omega
  · exact absurd hb h
  · have h2 := Int.fmod_nonneg_of_pos a hb
    have h3 := Int.fmod_lt_of_pos a hb
    omega
theorem gcd_abs (a b : Int) : Int.gcd (if a < 0 then -a else a) (if b < 0 then -b else b) = Int.gcd a b := by
  have h : ∀ x : Int, (if x < 0 then -x else x).natAbs = x.natAbs := fun x => by split <;> omega
  show Nat.gcd _ _ = Nat.gcd _ _
  rw [h, h]
def lowD (t b : Int) : Int := if b < 0 then -(Int.gcd b t : Int) else (Int.gcd b t : Int)
def lowT (t b : Int) : Int := t.fdiv (lowD t b)
def lowB (t b : Int) : Int := b.fdiv (lowD t b)
theorem lowD_abs (t b : Int) : (lowD t b).natAbs = Int.gcd b t := by
  unfold lowD; split <;> omega
theorem lowD_ne {t b : Int} (h : b ≠ 0) : lowD t b ≠ 0 := by
  have := (Int.gcd_pos_iff (a := b) (b := t)).mpr (.inl h)
  have e := lowD_abs t b
  omega
theorem lowD_dvd_t (t b : Int) : lowD t b ∣ t := by
  have h := Int.gcd_dvd_right b t
  unfold lowD; split
  · exact Int.neg_dvd.mpr h
  · exact h
theorem lowD_dvd_b (t b : Int) : lowD t b ∣ b := by
  have h := Int.gcd_dvd_left b t
  unfold lowD; split
  · exact Int.neg_dvd.mpr h
  · exact h
theorem fdiv_exact {d x : Int} (h : d ≠ 0) (q : d ∣ x) : x = d * x.fdiv d := by
  obtain ⟨c, rfl⟩ := q
  rw [Int.mul_fdiv_cancel_left c h]
theorem lowT_eq {t b : Int} (h : b ≠ 0) : t = lowD t b * lowT t b := fdiv_exact (lowD_ne h) (lowD_dvd_t t b)
theorem lowB_eq {t b : Int} (h : b ≠ 0) : b = lowD t b * lowB t b := fdiv_exact (lowD_ne h) (lowD_dvd_b t b)
theorem lowB_pos {t b : Int} (h : b ≠ 0) : 1 ≤ lowB t b := by
  have e := lowB_eq (t := t) h
  have hd := lowD_ne (t := t) h
  rcases Int.lt_or_gt_of_ne h with hb | hb
  · have : lowD t b < 0 := by
      unfold lowD at hd ⊢
      rw [if_pos hb] at hd ⊢
      omega
    rcases (show lowB t b < 1 ∨ 1 ≤ lowB t b by omega) with q | q
    · have : 0 ≤ lowD t b * lowB t b := Int.mul_nonneg_of_nonpos_of_nonpos (by omega) (by omega)
      omega
    · exact q
  · have : 0 < lowD t b := by
      unfold lowD at hd ⊢
      rw [if_neg (by omega)] at hd ⊢
      omega
    rcases (show lowB t b < 1 ∨ 1 ≤ lowB t b by omega) with q | q
    · have : lowD t b * lowB t b ≤ 0 := Int.mul_nonpos_of_nonneg_of_nonpos (by omega) (by omega)
      omega
    · exact q
theorem low_gcd {t b : Int} (h : b ≠ 0) : Int.gcd (lowT t b) (lowB t b) = 1 := by
  have e1 := lowT_eq (t := t) h
  have e2 := lowB_eq (t := t) h
  have q := Int.gcd_mul_left (lowD t b) (lowT t b) (lowB t b)
  rw [← e1, ← e2, lowD_abs, Int.gcd_comm t b] at q
  have p := (Int.gcd_pos_iff (a := b) (b := t)).mpr (.inl h)
  have q' : Int.gcd b t * 1 = Int.gcd b t * Int.gcd (lowT t b) (lowB t b) := by rw [Nat.mul_one]; exact q
  exact (Nat.eq_of_mul_eq_mul_left p q').symm
theorem low_cross {t b : Int} (h : b ≠ 0) : lowT t b * b = t * lowB t b := by
  have e1 := lowT_eq (t := t) h
  have e2 := lowB_eq (t := t) h
  have h1 : lowT t b * b = lowT t b * (lowD t b * lowB t b) := congrArg _ e2
  have h2 : t * lowB t b = lowD t b * lowT t b * lowB t b := congrArg (· * lowB t b) e1
  rw [h1, h2, Int.mul_left_comm, Int.mul_assoc]
/-- coprime pairs with like cross products are like -/
theorem cop_eq {a b c d : Int} (hb : 0 < b) (hd : 0 < d) (h1 : Int.gcd a b = 1) (h2 : Int.gcd c d = 1) (h : a * d = c * b) : a = c ∧ b = d := by
  have hbd : b ∣ d := by
    have : b.natAbs ∣ a.natAbs * d.natAbs := by
      rw [← Int.natAbs_mul, h, Int.natAbs_mul]
      exact Nat.dvd_mul_left _ _
    have hc : Nat.Coprime b.natAbs a.natAbs := (Nat.gcd_comm _ _).trans h1
    exact Int.natAbs_dvd_natAbs.mp (hc.dvd_of_dvd_mul_left this)
  have hdb : d ∣ b := by
    have : d.natAbs ∣ c.natAbs * b.natAbs := by
      rw [← Int.natAbs_mul, ← h, Int.natAbs_mul]
      exact Nat.dvd_mul_left _ _
    have hc : Nat.Coprime d.natAbs c.natAbs := (Nat.gcd_comm _ _).trans h2
    exact Int.natAbs_dvd_natAbs.mp (hc.dvd_of_dvd_mul_left this)
  have e : b = d := Int.dvd_antisymm (Int.le_of_lt hb) (Int.le_of_lt hd) hbd hdb
  subst e
  exact ⟨Int.eq_of_mul_eq_mul_right (by omega) h, rfl⟩
/-- what is divided by the common divisor is coprime -/
theorem div_gcd {t b : Int} (h : 0 < b) : (0 : Int) < (Int.gcd t b : Int) ∧ t = (Int.gcd t b : Int) * (t / (Int.gcd t b : Int)) ∧ b = (Int.gcd t b : Int) * (b / (Int.gcd t b : Int)) ∧ 1 ≤ b / (Int.gcd t b : Int) ∧ Int.gcd (t / (Int.gcd t b : Int)) (b / (Int.gcd t b : Int)) = 1 := by
  have p := (Int.gcd_pos_iff (a := t) (b := b)).mpr (.inr (by omega))
  have e1 : t = (Int.gcd t b : Int) * (t / (Int.gcd t b : Int)) := (Int.mul_ediv_cancel' (Int.gcd_dvd_left t b)).symm
  have e2 : b = (Int.gcd t b : Int) * (b / (Int.gcd t b : Int)) := (Int.mul_ediv_cancel' (Int.gcd_dvd_right t b)).symm
  refine ⟨by omega, e1, e2, ?_, ?_⟩
  · rcases (show b / (Int.gcd t b : Int) < 1 ∨ 1 ≤ b / (Int.gcd t b : Int) by omega) with q | q
    · have : (Int.gcd t b : Int) * (b / (Int.gcd t b : Int)) ≤ 0 := Int.mul_nonpos_of_nonneg_of_nonpos (by omega) (by omega)
      omega
    · exact q
  · have q := Int.gcd_mul_left (Int.gcd t b : Int) (t / (Int.gcd t b : Int)) (b / (Int.gcd t b : Int))
    rw [← e1, ← e2, Int.natAbs_natCast] at q
    have q' : Int.gcd t b * 1 = Int.gcd t b * Int.gcd (t / (Int.gcd t b : Int)) (b / (Int.gcd t b : Int)) := by rw [Nat.mul_one]; exact q
    exact (Nat.eq_of_mul_eq_mul_left p q').symm
theorem natAbs_ediv_le {a b : Int} (hb : 0 < b) : (a / b).natAbs ≤ a.natAbs := by
  rw [← Int.fdiv_eq_ediv_of_nonneg a (Int.le_of_lt hb)]
  exact PySem.natAbs_fdiv_le a b
end Mth

set_option Elab.async false
set_option linter.all false
set_option maxRecDepth 100000
set_option maxHeartbeats 4000000
namespace L2
open PySem PySem.Spec PyProof.Rows
/-! ### readings in short -/
theorem sm_back {H H' : Hp} {a : Addr} {o : HO} (g : Same H H') (h : H a = some o) : H' a = some o := g a o h
theorem bt_small {i : Int} (h1 : -(2 ^ 64) < i) (h2 : i < 2 ^ 64) : Bt 9000 i := Nat.le_trans (PySem.intBits_le_64 h1 h2) (by decide)
theorem bt_k {i : Int} (h : i.natAbs < 2 ^ 640) : Bt 640 i := bt_abs h
theorem bt_n {i : Int} (h0 : 0 ≤ i) (h : i < 2 ^ 640) : Bt 640 i := bt_abs (by omega)
/-! a tuple, a list made: the heap grows -/
def tTupS (t : TA) : TE := fun σ H Q => t σ H fun xs H1 => xs.length ≤ sizeLine ∧ ∀ p H2, Same H1 H2 → H2 p = some (.tup xs) → Q (.ref p) H2
def tLstS (t : TA) : TE := fun σ H Q => t σ H fun xs H1 => xs.length ≤ sizeLine ∧ ∀ p H2, Same H1 H2 → H2 p = some (.lst xs) → Q (.ref p) H2
theorem same_new {H : Hp} {p : Addr} (h : H p = none) (o : HO) : Same H (upd H p o) := fun b u q => by rw [upd_ne (ne_of_none q h)]; exact q
theorem PE.imp {X : Cx} {e : Expr} {t t' : TE} (h : PE X e t) (i : ∀ σ H Q, t' σ H Q → t σ H Q) : PE X e t' := fun pins s σ H Q I q => h pins s σ H Q I (i σ H Q q)
theorem OpR.imp {X : Cx} {f : Value → Value → Sem Value} {r r' : R2} (h : OpR X f r) (i : ∀ x y H Q, r' x y H Q → r x y H Q) : OpR X f r' := fun pins s σ H x y v u Q I rx ry q => h pins s σ H x y v u Q I rx ry (i x y H Q q)
section
variable {X : Cx} {es : List Expr} {t : TA} {pos : Pos}
theorem pe_tupS {x1} (h : PA X es t) : PE X (.Tuple es x1 pos) (tTupS t) := by
  intro pins s σ H Q I hq
  refine wpAny_Tuple_spliced (thn (h pos pins s σ H _ I hq) fun us s1 ⟨xs, H1, I1, r, z, q⟩ => ⟨by rw [← r.length]; exact z, ?_⟩)
  have hf : H1 s1.heap.objs.size = none := I1.hok.fresh (Nat.le_refl _)
  refine ⟨.ref s1.heap.objs.size, upd H1 s1.heap.objs.size (.tup xs), I1.laid (t' := s1.toks) (fun b u e => Heap.get?_push_of_some _ e) (Nat.le_refl _) ?_, rfl, q _ _ (same_new hf _) upd_same⟩
  exact ⟨z, us, r, ⟨_, Heap.get?_push_size _ rfl, rfl, _, rfl⟩⟩
theorem pe_lstS (h : PA X es t) : PE X (.List es pos) (tLstS t) := by
  intro pins s σ H Q I hq
  refine wpAny_List_spliced (thn (h pos pins s σ H _ I hq) fun us s1 ⟨xs, H1, I1, r, z, q⟩ => ⟨by rw [← r.length]; exact z, ?_⟩)
  have hf : H1 s1.heap.objs.size = none := I1.hok.fresh (Nat.le_refl _)
  refine ⟨.ref s1.heap.objs.size, upd H1 s1.heap.objs.size (.lst xs), I1.laid (t' := s1.toks) (fun b u e => Heap.get?_push_of_some _ e) (Nat.le_refl _) ?_, rfl, q _ _ (same_new hf _) upd_same⟩
  exact ⟨z, us, 0, r, Heap.get?_push_size _ rfl⟩
def rCatS : R2 := fun x y H Q => ∃ l b xs zs, x = .ref l ∧ y = .ref b ∧ H l = some (.lst xs) ∧ H b = some (.lst zs) ∧ xs.length + zs.length ≤ sizeLine ∧ ∀ p H2, Same H H2 → H2 p = some (.lst (xs ++ zs)) → Q (.ref p) H2
theorem op_catS : OpR X (binaryOp .Add) rCatS := op_cat.imp fun _ _ _ _ ⟨l, b, xs, zs, h1, h2, h3, h4, h5, q⟩ => ⟨l, b, xs, zs, h1, h2, h3, h4, h5, fun p hp => q p _ (same_new hp _) upd_same⟩
theorem SlR.imp {r r' : V → Option Int → Option Int → Hp → VK → Prop} (h : SlR X r) (i : ∀ x lo hi H Q, r' x lo hi H Q → r x lo hi H Q) : SlR X r' := by
  unfold SlR at h ⊢
  intros
  apply h
  all_goals first | assumption | (apply i; assumption)
def rSlLS (K : PySem.W.Frag) : V → Option Int → Option Int → Hp → VK → Prop := fun x lo hi H Q => ∃ a xs, x = .ref a ∧ SqL K H a xs ∧ ∀ p H2, Same H H2 → H2 p = some (.lst (cutV xs lo hi)) → Q (.ref p) H2
theorem sl_listS : SlR X (rSlLS X.K) := sl_list.imp fun _ _ _ _ _ ⟨a, xs, h1, h2, q⟩ => ⟨a, xs, h1, h2, fun p hp => q p _ (same_new hp _) upd_same⟩
end
/-- over a list that stands, the element reading handing on growing heaps: what holds of the items so far -/
theorem lc_list {K : PySem.W.Frag} {a : Addr} {xs : List V} {te : TE} {Q : VK} {H : Hp} (hsz : xs.length < sizeLine) (Pv : Nat → List V → Hp → Prop) (h0 : Pv 0 [] H) (hl : ∀ i ys H, i ≤ xs.length → Pv i ys H → SqL K H a xs ∧ ys.length = i)
    (hs : ∀ i x ys H, xs[i]? = some x → Pv i ys H → te [some x] H fun y H2 => Pv (i + 1) (ys ++ [y]) H2) (mono : ∀ σ H (Q Q' : VK), (∀ x H1, Q x H1 → Q' x H1) → te σ H Q → te σ H Q')
    (hd : ∀ ys H, Pv xs.length ys H → ∀ p H2, Same H H2 → H2 p = some (.lst ys) → Q (.ref p) H2) :
    LcW (Itl K a) te Q H := by
  refine ⟨fun i m ys H => m = xs.length - i ∧ i ≤ xs.length ∧ Pv i ys H, ⟨xs.length, by simp, Nat.zero_le _, h0⟩, ?_⟩
  rintro i m ys H ⟨rfl, hi, p⟩
  obtain ⟨q, hy⟩ := hl i ys H hi p
  refine ⟨by omega, ?_⟩
  by_cases hlt : i < xs.length
  · refine .inr ⟨⟨xs, xs[i], q, by simp [hlt]⟩, fun x H' y => ?_⟩
    obtain ⟨e, y⟩ := y
    subst e
    exact mono _ _ _ _ (fun z H1 hz => ⟨xs.length - (i + 1), by omega, rfl, hlt, hz⟩) (hs i x ys _ (y xs q) p)
  · have e : i = xs.length := by omega
    subst e
    exact .inl ⟨⟨xs, q, Nat.le_refl _⟩, fun p hp => hd ys H (by assumption) p _ (same_new hp _) upd_same⟩
theorem at0 {x : V} {xs : List V} : atI (x :: xs) 0 = some x := atI_nat (j := 0) rfl
theorem at1 {x y : V} {xs : List V} : atI (x :: y :: xs) 1 = some y := atI_nat (j := 1) rfl
theorem at2 {x y z : V} {xs : List V} : atI (x :: y :: z :: xs) 2 = some z := atI_nat (j := 2) rfl
theorem ixt_back {K : PySem.W.Frag} {H : Hp} {Q : VK} {p : Addr} {xs : List V} {i : Int} {v : V} (h : H p = some (.tup xs)) (e : atI xs i = some v) (q : Q v H) : rIxT K (.ref p) (.int i) H Q := ⟨p, xs, i, v, rfl, rfl, SqT.of h, e, q⟩
theorem ixl_back {K : PySem.W.Frag} {H : Hp} {Q : VK} {p : Addr} {xs : List V} {i : Int} {v : V} (h : H p = some (.lst xs)) (e : atI xs i = some v) (q : Q v H) : rIxL K (.ref p) (.int i) H Q := ⟨p, xs, i, v, rfl, rfl, SqL.of h, e, q⟩
end L2

set_option Elab.async false
set_option linter.all false
set_option maxRecDepth 100000
set_option maxHeartbeats 4000000
namespace L2
open PySem PySem.Spec PyProof.Rows
/-! ### readings are monotone in what is wanted -/
def MnE (t : TE) : Prop := ∀ σ H (Q Q' : VK), (∀ v H1, Q v H1 → Q' v H1) → t σ H Q → t σ H Q'
def MnT (t : TT) : Prop := ∀ σ H (Q Q' : Bool → Hp → Prop), (∀ v H1, Q v H1 → Q' v H1) → t σ H Q → t σ H Q'
def MnA (t : TA) : Prop := ∀ σ H (Q Q' : List V → Hp → Prop), (∀ v H1, Q v H1 → Q' v H1) → t σ H Q → t σ H Q'
def MnR (r : R2) : Prop := ∀ x y H (Q Q' : VK), (∀ v H1, Q v H1 → Q' v H1) → r x y H Q → r x y H Q'
def MnC (r : List V → Hp → VK → Prop) : Prop := ∀ xs H (Q Q' : VK), (∀ v H1, Q v H1 → Q' v H1) → r xs H Q → r xs H Q'
def MnU (r : V → Hp → VK → Prop) : Prop := ∀ x H (Q Q' : VK), (∀ v H1, Q v H1 → Q' v H1) → r x H Q → r x H Q'
def MnP (sp : Sp) : Prop := ∀ vs H (Q Q' : VK) E, (∀ v H1, Q v H1 → Q' v H1) → sp vs H Q E → sp vs H Q' E
def MnG (g : TG) : Prop := ∀ v σ H (Q Q' : St → Hp → Prop), (∀ σ1 H1, Q σ1 H1 → Q' σ1 H1) → g v σ H Q → g v σ H Q'
structure EndsLe (D D' : Ends) : Prop where
  nx : ∀ σ H, D.nx σ H → D'.nx σ H
  rt : ∀ v H, D.rt v H → D'.rt v H
  bk : ∀ σ H, D.bk σ H → D'.bk σ H
  ct : ∀ σ H, D.ct σ H → D'.ct σ H
def MnS (t : TS) : Prop := ∀ (D D' : Ends) σ H, EndsLe D D' → t D σ H → t D' σ H
section
variable {ta tb : TE} {t u : TS} {c d : TT} {r : R2} {aa : TA} {sp : Sp} {i : Nat} {v : V}
theorem mn_var : MnE (tVar i) := fun _ _ _ _ m ⟨v, e, q⟩ => ⟨v, e, m _ _ q⟩
theorem mn_c : MnE (tC v) := fun _ _ _ _ m q => m _ _ q
theorem mn_op (hr : MnR r) (ha : MnE ta) (hb : MnE tb) : MnE (tOp r ta tb) := fun _ _ _ _ m q => ha _ _ _ _ (fun _ _ q1 => hb _ _ _ _ (fun _ _ q2 => hr _ _ _ _ _ m q2) q1) q
theorem mn_un {r : V → Hp → VK → Prop} (hr : MnU r) (ha : MnE ta) : MnE (tUn r ta) := fun _ _ _ _ m q => ha _ _ _ _ (fun _ _ q1 => hr _ _ _ _ m q1) q
theorem mn_rI {C : Int → Int → Prop} {g : Int → Int → V} : MnR (rI C g) := fun _ _ _ _ _ m ⟨i, j, h1, h2, h3, q⟩ => ⟨i, j, h1, h2, h3, m _ _ q⟩
theorem mn_rI0 {g : Int → Int → V} : MnR (rI0 g) := fun _ _ _ _ _ m ⟨i, j, h1, h2, q⟩ => ⟨i, j, h1, h2, m _ _ q⟩
theorem mn_rU {g : Int → V} : MnU (rU g) := fun _ _ _ _ m ⟨i, h1, q⟩ => ⟨i, h1, m _ _ q⟩
theorem mn_rEq : MnR rEq := fun _ _ _ _ _ m ⟨h, q⟩ => ⟨h, m _ _ q⟩
theorem mn_rNe : MnR rNe := fun _ _ _ _ _ m ⟨h, q⟩ => ⟨h, m _ _ q⟩
theorem mn_rEqD {K : PySem.W.Frag} {n : Bool} : MnR (rEqD K n) := fun _ _ _ _ _ m ⟨d, e, h1, h2, h3, h4, q⟩ => ⟨d, e, h1, h2, h3, h4, m _ _ q⟩
theorem mn_rIxL {K : PySem.W.Frag} : MnR (rIxL K) := fun _ _ _ _ _ m ⟨p, xs, i, v, h1, h2, h3, h4, q⟩ => ⟨p, xs, i, v, h1, h2, h3, h4, m _ _ q⟩
theorem mn_rIxT {K : PySem.W.Frag} : MnR (rIxT K) := fun _ _ _ _ _ m ⟨p, xs, i, v, h1, h2, h3, h4, q⟩ => ⟨p, xs, i, v, h1, h2, h3, h4, m _ _ q⟩
theorem mn_test (ha : MnE ta) : MnT (tTest ta) := fun _ _ _ _ m q => ha _ _ _ _ (fun _ _ ⟨k, e, q1⟩ => ⟨k, e, m _ _ q1⟩) q
theorem mn_tB (ha : MnE ta) : MnT (tB ta) := fun _ _ _ _ m q => ha _ _ _ _ (fun _ _ ⟨k, e, q1⟩ => ⟨k, e, m _ _ q1⟩) q
theorem mn_not (hc : MnT c) : MnT (tNot c) := fun _ _ _ _ m q => hc _ _ _ _ (fun _ _ q1 => m _ _ q1) q
theorem mn_and (hc : MnT c) (hd : MnT d) : MnT (tAnd c d) := fun _ _ _ _ m q => hc _ _ _ _ (fun b _ q1 => by
  cases b with
  | true => exact hd _ _ _ _ m q1
  | false => exact m _ _ q1) q
theorem mn_or (hc : MnT c) (hd : MnT d) : MnT (tOr c d) := fun _ _ _ _ m q => hc _ _ _ _ (fun b _ q1 => by
  cases b with
  | true => exact m _ _ q1
  | false => exact hd _ _ _ _ m q1) q
theorem mn_nil : MnA tNil := fun _ _ _ _ m q => m _ _ q
theorem mn_cons (ha : MnE ta) (hb : MnA aa) : MnA (tCons ta aa) := fun _ _ _ _ m q => ha _ _ _ _ (fun _ _ q1 => hb _ _ _ _ (fun _ _ q2 => m _ _ q2) q1) q
theorem mn_tupS (ha : MnA aa) : MnE (tTupS aa) := fun _ _ _ _ m q => ha _ _ _ _ (fun _ _ ⟨z, q1⟩ => ⟨z, fun p H2 g e => m _ _ (q1 p H2 g e)⟩) q
theorem mn_lstS (ha : MnA aa) : MnE (tLstS aa) := fun _ _ _ _ m q => ha _ _ _ _ (fun _ _ ⟨z, q1⟩ => ⟨z, fun p H2 g e => m _ _ (q1 p H2 g e)⟩) q
theorem mn_call {dvs : List V} {E : XK} (hs : MnP sp) (ha : MnA aa) : MnE (tCall sp dvs E aa) := fun _ _ _ _ m q => ha _ _ _ _ (fun _ _ q1 => hs _ _ _ _ _ m q1) q
theorem mn_cb {r : List V → Hp → VK → Prop} (hr : MnC r) (ha : MnA aa) : MnE (tCB r aa) := fun _ _ _ _ m q => ha _ _ _ _ (fun _ _ q1 => hr _ _ _ _ m q1) q
theorem mn_next : MnS tNext := fun _ _ _ _ m q => m.nx _ _ q
theorem mn_seq (ht : MnS t) (hu : MnS u) : MnS (tSeq t u) := fun D D' σ H m q => ht { D with nx := u D } { D' with nx := u D' } σ H ⟨fun _ _ q1 => hu _ _ _ _ m q1, m.rt, m.bk, m.ct⟩ q
theorem mn_asg {i : Nat} (ha : MnE ta) : MnS (tAsg ta (gName i)) := fun _ _ _ _ m q => ha _ _ _ _ (fun _ _ q1 => m.nx _ _ q1) q
theorem mn_if (hc : MnT c) (ht : MnS t) (hu : MnS u) : MnS (tIfS c t u) := fun _ _ _ _ m q => hc _ _ _ _ (fun b _ q1 => by
  cases b with
  | true => exact ht _ _ _ _ m q1
  | false => exact hu _ _ _ _ m q1) q
theorem mn_ret (ha : MnE ta) : MnS (tRet ta) := fun _ _ _ _ m q => ha _ _ _ _ (fun _ _ q1 => m.rt _ _ q1) q
theorem mn_never : MnS tNever := fun _ _ _ _ _ q => q.elim
/-- what holds between two statements -/
theorem seq_cut {D : Ends} {σ : St} {H : Hp} (W : St → Hp → Prop) (m : MnS t) (h1 : t { D with nx := W } σ H) (h2 : ∀ σ H, W σ H → u D σ H) : tSeq t u D σ H := m { D with nx := W } { D with nx := u D } σ H ⟨h2, fun _ _ q => q, fun _ _ q => q, fun _ _ q => q⟩ h1
theorem while_mn {c : TT} {tb : TS} {D : Ends} {σ : St} {H : Hp} (mono : MnT c) (Pv : St → Hp → Prop) (μ : St → Hp → Nat) (h0 : Pv σ H)
    (hs : ∀ σ H, Pv σ H → c σ H fun b H1 => if b = true then tb { D with nx := fun σ' H' => Pv σ' H' ∧ μ σ' H' < μ σ H, ct := fun σ' H' => Pv σ' H' ∧ μ σ' H' < μ σ H, bk := D.nx } σ H1 else D.nx σ H1) : tWhile c tb D σ H := while_by Pv μ h0 hs mono
/-- an item of a written menu of ints -/
theorem at_menu {ns : List Int} {i : Int} (h0 : 0 ≤ i) (h1 : i < ns.length) : ∃ v ∈ ns, atI (ns.map V.int) i = some (.int v) := by
  have hk : i.toNat < ns.length := by omega
  have ek : i = ((i.toNat : Nat) : Int) := by omega
  refine ⟨ns[i.toNat], List.getElem_mem hk, ?_⟩
  have q : atI (ns.map V.int) ((i.toNat : Nat) : Int) = some (.int ns[i.toNat]) := atI_nat (by rw [List.getElem?_map, List.getElem?_eq_getElem hk] <;> rfl)
  rw [← ek] at q
  exact q
end
end L2

set_option Elab.async false
set_option linter.all false
set_option maxRecDepth 100000
set_option maxHeartbeats 4000000
namespace L2
open PySem PySem.Spec PyProof.Rows
/-! ### the rules in boxes: Lean does not look into a box while it reads a term -/
structure QE (X : Cx) (e : Expr) (t : TE) : Prop where
  p : PE X e t
structure QT (X : Cx) (e : Expr) (t : TT) : Prop where
  p : PT X e t
structure QW (X : Cx) (e : Expr) (t : TT) : Prop where
  p : PW X e t
structure QA (X : Cx) (es : List Expr) (t : TA) : Prop where
  p : PA X es t
structure QS (X : Cx) (st : Stmt) (t : TS) : Prop where
  p : PS X st t
structure QSs (X : Cx) (st : List Stmt) (t : TS) : Prop where
  p : PSs X st t
structure QG (X : Cx) (e : Expr) (t : TG) : Prop where
  p : PG X e t
structure QGs (X : Cx) (es : List Expr) (t : TGs) : Prop where
  p : PGs X es t
structure QI (X : Cx) (tg e : Expr) (t : TI) : Prop where
  p : PI X tg e t
structure QO (X : Cx) (e : Option Expr) (t : TO) : Prop where
  p : PO X e t
section
variable {X : Cx} {a b c e f o : Expr} {ta tb tc te : TE} {pos pos2 p2 : Pos} {tA tB' : TT} {rest : List Expr} {es : List Expr} {aa : TA}
theorem qe_int {i j pos} : QE X (.Constant (.int i) j pos) (tC (.int i)) := ⟨pe_int⟩
theorem qe_bl {i j pos} : QE X (.Constant (.bool i) j pos) (tC (.bl i)) := ⟨pe_bl⟩
theorem qe_non {j pos} : QE X (.Constant .none j pos) (tC .non) := ⟨pe_non⟩
theorem qe_str {x j pos} : QE X (.Constant (.str x) j pos) (tC (.str x)) := ⟨pe_str⟩
theorem qv (i : Nat) {x : Str} {pos : Pos} (hN : X.N[i]? = some x := by rfl) (hv : Vis X.env.scope x := by first | exact Or.inl rfl | exact Or.inr (Or.inl rfl) | exact Or.inr (Or.inr rfl)) (hd : (x == ("__debug__" : Str)) = false := by decide)
    (hcd : (x == ("__classdict__" : Str)) = false := by decide) : QE X (.Name x pos) (tVar i) := ⟨pe_var hN hv hd hcd⟩
theorem qe_op {op : Operator} {r : R2} (ho : OpR X (binaryOp op) r) (ha : QE X a ta) (hb : QE X b tb) : QE X (.BinOp a op b pos) (tOp r ta tb) := ⟨pe_op ho ha.p hb.p⟩
theorem qe_un {op : UnaryOp} {r : V → Hp → VK → Prop} (ho : UnR X (unaryOp op) r) (ha : QE X a ta) : QE X (.UnaryOp op a pos) (tUn r ta) := ⟨pe_un ho ha.p⟩
theorem qe_not (ha : QE X a ta) : QE X (.UnaryOp .Not a pos) (tNotV ta) := ⟨pe_not ha.p⟩
theorem qe_one {op} {t : TE} (h : QE X a t) : QE X (.BoolOp op [a] pos) t := ⟨pe_one h.p⟩
theorem qe_and (ha : QE X a ta) (hb : QE X (.BoolOp .And (b :: rest) pos) tb) : QE X (.BoolOp .And (a :: b :: rest) pos) (tAndV ta tb) := ⟨pe_and ha.p hb.p⟩
theorem qe_or (ha : QE X a ta) (hb : QE X (.BoolOp .Or (b :: rest) pos) tb) : QE X (.BoolOp .Or (a :: b :: rest) pos) (tOrV ta tb) := ⟨pe_or ha.p hb.p⟩
theorem qe_ifExp (hc : QT X c tA) (ha : QE X a ta) (hb : QE X b tb) : QE X (.IfExp c a b pos) (tIf tA ta tb) := ⟨pe_ifExp hc.p ha.p hb.p⟩
theorem qe_cmpR {op : CmpOp} {r : R2} (ho : OpR X (compareOp op) r) (ha : QE X a ta) (hb : QE X b tb) (hm : behindInMarks op b = false) : QE X (.Compare a [op] [b] pos) (tOp r ta tb) := ⟨pe_cmpR ho ha.p hb.p hm⟩
theorem qt_cmpR {op : CmpOp} {r : R2} (ho : OpR X (compareOp op) r) (ha : QE X a ta) (hb : QE X b tb) (hm : behindInMarks op b = false) : QT X (.Compare a [op] [b] pos) (tTest (tOp r ta tb)) := ⟨pt_cmpR ho ha.p hb.p hm⟩
theorem qe_chain {op op' : CmpOp} {r r' : R2} (ho : OpR X (compareOp op) r) (ho' : OpR X (compareOp op') r') (ha : QE X a ta) (hb : QE X b tb) (hc : QE X c tc) (hm : lastMarks [op, op'] [b, c] = false := by with_unfolding_all rfl) : QE X (.Compare a [op, op'] [b, c] pos) (tChain r r' ta tb tc) := ⟨pe_chain ho ho' ha.p hb.p hc.p hm⟩
theorem qt_chain {op op' : CmpOp} {r r' : R2} (ho : OpR X (compareOp op) r) (ho' : OpR X (compareOp op') r') (ha : QE X a ta) (hb : QE X b tb) (hc : QE X c tc) (hm : lastMarks [op, op'] [b, c] = false := by with_unfolding_all rfl) : QT X (.Compare a [op, op'] [b, c] pos) (tTest (tChain r r' ta tb tc)) := ⟨pt_chain ho ho' ha.p hb.p hc.p hm⟩
theorem qt_val {t : TE} (h : QE X e t) (he : ∀ whole, isTrue e X.env whole = (do let v ← whole; standAt e.pos; holding [v] (truthy v)) := by intro _; rfl) : QT X e (tB t) := ⟨pt_val h.p he⟩
theorem qt_truth (ha : QE X a ta) (he : ∀ whole, isTrue a X.env whole = (do let v ← whole; standAt a.pos; holding [v] (truthy v)) := by intro _; rfl) : QT X a (fun σ H Q => ta σ H fun x H' => ∃ k, TruV X.K x H' k ∧ Q k H') := ⟨pt_truth ha.p he⟩
theorem qt_not (ha : QT X a tA) : QT X (.UnaryOp .Not a pos) (tNot tA) := ⟨pt_not ha.p⟩
theorem qw_and1 (ha : QT X a tA) : QW X (.BoolOp .And [a] pos) tA := ⟨pw_and1 ha.p⟩
theorem qw_or1 (ha : QT X a tA) : QW X (.BoolOp .Or [a] pos) tA := ⟨pw_or1 ha.p⟩
theorem qw_and (ha : QT X a tA) (hb : QW X (.BoolOp .And (b :: rest) pos) tB') : QW X (.BoolOp .And (a :: b :: rest) pos) (tAnd tA tB') := ⟨pw_and ha.p hb.p⟩
theorem qw_or (ha : QT X a tA) (hb : QW X (.BoolOp .Or (b :: rest) pos) tB') : QW X (.BoolOp .Or (a :: b :: rest) pos) (tOr tA tB') := ⟨pw_or ha.p hb.p⟩
theorem QW.pt {t : TT} (h : QW X e t) : QT X e t := ⟨h.p.pt⟩
theorem qe_glob {x : Str} {v : V} {u : Value} (hg : Gl X x) (hm : X.mg x = some u) (r : RelV v u) (hd : (x == ("__debug__" : Str)) = false := by decide) : QE X (.Name x pos) (tC v) := ⟨pe_glob hg hm r hd⟩
theorem qe_globS {x y : Str} (hg : Gl X x) (hm : ∃ t, X.mg x = some (.str y t)) (hd : (x == ("__debug__" : Str)) = false := by decide) : QE X (.Name x pos) (tC (.str y)) := by
  obtain ⟨t, hm⟩ := hm
  exact ⟨pe_glob hg hm ⟨t, rfl⟩ hd⟩
theorem qe_globI {x : Str} {y : Int} (hg : Gl X x) (hm : ∃ t, X.mg x = some (.int y t)) (hd : (x == ("__debug__" : Str)) = false := by decide) : QE X (.Name x pos) (tC (.int y)) := by
  obtain ⟨t, hm⟩ := hm
  exact ⟨pe_glob hg hm ⟨t, rfl⟩ hd⟩
theorem qe_bltn {x : Str} {v : V} {u : Value} (hg : Gl X x) (hm : X.mg x = none) (hv : bootBuiltins x = some u) (r : RelV v u) (hn : x ≠ "__name__" := by decide) (hd : (x == ("__debug__" : Str)) = false := by decide) : QE X (.Name x pos) (tC v) := ⟨pe_bltn hg hm hv r hn hd⟩
theorem qa_nil : QA X [] tNil := ⟨pa_nil⟩
theorem qa_cons (ha : QE X e te) (hr : QA X es aa) (hs : starEach (e :: es) X.env = (false, eval e X.env) :: starEach es X.env := by rfl) : QA X (e :: es) (tCons te aa) := ⟨pa_cons ha.p hr.p hs⟩
theorem qe_fn {CX : CXT} {k : Nat} {ps : List Str} {sp : Sp} {E : XK} {x : Str} {pp : Pos} (C : Cal X.prog X.w X.K X.mg X.base CX k x ps sp) (hr : Room k X.A) (hx : Passes CX X E) (ha : QA X (e :: es) aa) (hg : Gl X x := by rfl)
    (hdb : (x == ("__debug__" : Str)) = false := by decide) (he : starEach (e :: es) X.env = (false, eval e X.env) :: starEach es X.env := by rfl) (hpl : (backTo pos (starEach es X.env)).any (·.1) = false := by rfl) : QE X (.Call (.Name x pp) (e :: es) [] pos) (tCall sp [] E aa) := ⟨pe_fn C hr hx ha.p hg hdb he hpl⟩
theorem qe_callB {x : Str} {pp : Pos} {id : String} {r : List V → Hp → VK → Prop} (hc : CallR X (.builtin id) r) (hg : Gl X x) (hm : X.mg x = none) (hv : bootBuiltins x = some (.builtin id)) (ha : QA X (e :: es) aa) (hn : x ≠ "__name__" := by decide) (hdb : (x == ("__debug__" : Str)) = false := by decide)
    (he : starEach (e :: es) X.env = (false, eval e X.env) :: starEach es X.env := by rfl) (hpl : (backTo pos (starEach es X.env)).any (·.1) = false := by rfl) : QE X (.Call (.Name x pp) (e :: es) [] pos) (tCB r aa) := ⟨pe_callB hc hg hm hv ha.p hn hdb he hpl⟩
theorem qe_callTy {x : Str} {pp : Pos} {id : String} {r : List V → Hp → VK → Prop} (hc : CallR X (.type id) r) (hg : Gl X x) (hm : X.mg x = none) (hv : bootBuiltins x = some (.type id)) (ha : QA X (e :: es) aa) (hn : x ≠ "__name__" := by decide) (hdb : (x == ("__debug__" : Str)) = false := by decide)
    (he : starEach (e :: es) X.env = (false, eval e X.env) :: starEach es X.env := by rfl) (hpl : (backTo pos (starEach es X.env)).any (·.1) = false := by rfl) : QE X (.Call (.Name x pp) (e :: es) [] pos) (tCB r aa) := ⟨pe_callTy hc hg hm hv ha.p hn hdb he hpl⟩
theorem qe_ix {r : R2} (hr : IxR X r) (ha : QE X a ta) (hb : QE X b tb) (hs : PlainIx b) : QE X (.Subscript a b pos) (tOp r ta tb) := ⟨pe_ix hr ha.p hb.p hs⟩
theorem qo_none : QO X none tNoPart := ⟨po_none⟩
theorem qo_some (h : QE X e te) : QO X (some e) (tPart te) := ⟨po_some h.p⟩
theorem qe_slice {r : V → Option Int → Option Int → Hp → VK → Prop} {lo hi : Option Expr} {tl th : TO} (hr : SlR X r) (he : QE X e te) (hl : QO X lo tl) (hu : QO X hi th) : QE X (.Subscript e (.Slice lo hi none p2) pos) (tSl r te tl th) := ⟨pe_slice hr he.p hl.p hu.p⟩
theorem qe_tupS {x1} (h : QA X es aa) : QE X (.Tuple es x1 pos) (tTupS aa) := ⟨pe_tupS h.p⟩
theorem qe_lstS (h : QA X es aa) : QE X (.List es pos) (tLstS aa) := ⟨pe_lstS h.p⟩
theorem qe_lc {elt iter : Expr} {x : Str} {px : Pos} {scope : Scope} {wi : TI} (hc : X.calm = true) (hi : QI X (.Name x px) iter wi) (hk : scope.kind = .function) (hx : scope.names.lookup x = some .local) (hfree : ∀ y ∈ scope.names, y.2 ≠ .free) (hcell : ∀ y ∈ scope.names, y.2 ≠ .cell)
    (hnames : ∀ y ∈ scope.names, y.2 = .local → scope.names.lookup y.1 = some .local)
    (he : ∀ (C : Addr) (s : Shared) (H : Hp) (fp : List Addr), QE (X.comp scope x C s H fp) elt te) (hs : ∀ x, foldedSetIterable iter X.env x = pure x := by intro _; rfl) : QE X (.ListComp elt [⟨.Name x px, iter, [], 0⟩] scope pos) (tLc wi te) := ⟨pe_lc hc hi.p hk hx hfree hcell hnames (fun C s H fp => (he C s H fp).p) hs⟩
theorem qe_bm0 {T id : String} {name : Str} {apos cpos : Pos} {r : V → List V → Hp → VK → Prop} (pa : PlainAttrs T) (slot : Slot T name id) (hty : typeOf (.builtin id) = pure (.type "method_descriptor")) (hm : MtR X id r) (ho : QE X o te)
    (hbase : attributeBase o name X.env (eval o X.env) = eval o X.env := by rfl) (hline : (apos.endLine == cpos.line) = true := by rfl) : QE X (.Call (.Attribute o name apos) [] [] cpos) (tBM0 X.K T r te) := ⟨pe_bm0 pa slot hty hm ho.p hbase hline⟩
theorem qe_bm {T id : String} {name : Str} {apos cpos : Pos} {r : V → List V → Hp → VK → Prop} (pa : PlainAttrs T) (slot : Slot T name id) (hty : typeOf (.builtin id) = pure (.type "method_descriptor")) (hm : MtR X id r) (ho : QE X o te) (ha : QA X (e :: es) aa)
    (hbase : attributeBase o name X.env (eval o X.env) = eval o X.env := by rfl)
    (hfew : ((backTo cpos (starEach (e :: es) X.env)).all (fun x => !x.1) && (backToKw cpos (keywordEach [] X.env)).all (fun x => x.1.isSome)
      && decide ((e :: es).length + ([] : List Keyword).length + (if ([] : List Keyword).isEmpty then 0 else 1) < 30)) = true := by rfl)
    (hline : (apos.endLine == cpos.line) = true := by rfl) (hs : starEach (e :: es) X.env = (false, eval e X.env) :: starEach es X.env := by rfl) (hplain : (backTo cpos (starEach es X.env)).any (·.1) = false := by rfl) :
    QE X (.Call (.Attribute o name apos) (e :: es) [] cpos) (tBM X.K T r te aa) := ⟨pe_bm pa slot hty hm ho.p ha.p hbase hfew hline hs hplain⟩
end
section
variable {X : Cx} {st : Stmt} {rest body a b : List Stmt} {t u tb : TS} {e tg c iter : Expr} {te : TE} {tc : TT} {pos : Pos} {g : TG} {wi : TI} {aa : TA}
theorem qss_nil : QSs X [] tNext := ⟨pss_nil⟩
theorem qss_cons (h1 : QS X st t) (h2 : QSs X rest u) : QSs X (st :: rest) (tSeq t u) := ⟨pss_cons h1.p h2.p⟩
theorem qss_one (h1 : QS X st t) : QSs X [st] t := ⟨pss_one h1.p⟩
theorem qs_pass : QS X (.Pass pos) tNext := ⟨ps_pass⟩
theorem qs_break : QS X (.Break pos) tBreak := ⟨ps_break⟩
theorem qs_continue : QS X (.Continue pos) tCont := ⟨ps_continue⟩
theorem qs_never : QS X st tNever := ⟨ps_never⟩
theorem qs_ret (he : QE X e te) : QS X (.Return (some e) pos) (tRet te) := ⟨ps_ret he.p⟩
theorem qs_retN : QS X (.Return none pos) tRetN := ⟨ps_retN⟩
theorem qs_expr (he : QE X e te) (hs : swapsWith e none pos.line X.env = pure false := by rfl) : QS X (.Expr e pos) (tDrop te) := ⟨ps_expr he.p hs⟩
theorem qs_if (hc : QT X c tc) (ha : QSs X a t) (hb : QSs X b u) : QS X (.If c a b pos) (tIfS tc t u) := ⟨ps_if hc.p ha.p hb.p⟩
theorem qs_while (hp : PassesOwn (model X.prog X.w) X.A X.env X.xe) (hc : QT X c tc) (hb : QSs X body tb) : QS X (.While c body [] pos) (tWhile tc tb) := ⟨ps_while hp hc.p hb.p⟩
theorem qs_for (hp : PassesOwn (model X.prog X.w) X.A X.env X.xe) (hc : X.calm = true) (hi : QI X tg iter wi) (hg : QG X tg g) (hb : QSs X body tb)
    (hs : ∀ x, foldedSetIterable iter X.env x = pure x := by intro _; rfl) : QS X (.For tg iter body [] pos) (tFor wi g tb) := ⟨ps_for hp hc hi.p hg.p hb.p hs⟩
theorem qs_asg (he : QE X e te) (hg : QG X tg g) (hs : swapsWithSole [tg] e pos.line X.env = pure false := by rfl) (hw : swappedStores [tg] e X.env = pure none := by rfl)
    (h1 : (assignEach [tg] X.env).map (·.2) = [assign tg X.env] := by rfl) : QS X (.Assign [tg] e pos) (tAsg te g) := ⟨ps_asg he.p hg.p hs hw h1⟩
theorem qs_par {i j : Nat} {x y : Str} {a b : Expr} {px py pt : Pos} {kt k2 pt2} (hc : X.calm = true) (hN : X.N.Nodup) (hi : X.N[i]? = some x) (hj : X.N[j]? = some y) (hij : i ≠ j)
    (hx : X.env.scope.names.lookup x = some .local) (hy : X.env.scope.names.lookup y = some .local) (ha : QA X [a, b] aa)
    (hw : swappedStores [.Tuple [.Name x px, .Name y py] kt pt] (.Tuple [a, b] k2 pt2) X.env = pure (some [x, y]))
    (hs : swapsWithSole [.Tuple [.Name x px, .Name y py] kt pt] (.Tuple [a, b] k2 pt2) pos.line X.env = pure false := by rfl) :
    QS X (.Assign [.Tuple [.Name x px, .Name y py] kt pt] (.Tuple [a, b] k2 pt2) pos) (tPar i j aa) := ⟨ps_par hc hN hi hj hij hx hy ha.p hw hs⟩
theorem qgs_nil : QGs X [] gNil := ⟨pgs_nil⟩
theorem qgs_cons {es : List Expr} {t : TG} {u : TGs} (h1 : QG X e t) (h2 : QGs X es u)
    (hs : (assignEach (e :: es) X.env).map (·.2) = assign e X.env :: (assignEach es X.env).map (·.2) := by rfl) : QGs X (e :: es) (gCons t u) := ⟨pgs_cons h1.p h2.p hs⟩
theorem qg_tup {es : List Expr} {k : Nat} {t : TGs} {n : Nat} (hc : X.calm = true) (h : QGs X es t)
    (hn : (assignEach es X.env).length = n := by rfl) (hst : (assignEach es X.env).findIdx? (·.1) = none := by rfl) : QG X (.Tuple es k pos) (gTup X.K n t) := ⟨pg_tup hc h.p hn hst⟩
theorem qi_list (h : QE X e te) : QI X tg e (iList X.K te) := ⟨pi_list h.p⟩
theorem qi_tup (h : QE X e te) : QI X tg e (iTup X.K te) := ⟨pi_tup h.p⟩
theorem qi_range1 {a : Expr} {p : Pos} (hg : Gl X "range") (hm : X.mg "range" = none) (ha : QA X [a] aa) (hs : starEach [a] X.env = [(false, eval a X.env)] := by rfl) : QI X tg (.Call (.Name "range" p) [a] [] pos) (iRng1 aa) := ⟨pi_range1 hg hm ha.p hs⟩
theorem qi_range2 {a b : Expr} {p : Pos} (hg : Gl X "range") (hm : X.mg "range" = none) (ha : QA X [a, b] aa) (hs : starEach [a, b] X.env = [(false, eval a X.env), (false, eval b X.env)] := by rfl) (hs2 : starEach [b] X.env = [(false, eval b X.env)] := by rfl) :
    QI X tg (.Call (.Name "range" p) [a, b] [] pos) (iRng2 aa) := ⟨pi_range2 hg hm ha.p hs hs2⟩
end
section
variable {P : Program} {w : World} {K : PySem.W.Frag} {mg : Str → Option Value} {base : Heap}
theorem Fun.okQ {x qual : Str} {st : Stmt} {f : Addr} {fd : FuncData} {N ps : List Str} {k : Nat} {sp : Sp} (F : Fun K x qual st f fd) (S : FnScope N ps (defScope st)) (len : ∀ vs H Q E, sp vs H Q E → vs.length = ps.length)
    (hbody : ∀ (cdv : Value) (A : Around) (outer : List Env) (s : Shared) (H : Hp) (vs : List V) (Q : VK) (E : XK), Room k (A.deeper (envOfC qual (defScope st) s.heap.objs.size f cdv)) → sp vs H Q E →
      ∃ t, QSs ((cxOf CX0 P w K mg base N qual (defScope st) f cdv A outer s H E).wish fun _ _ => False) (defBody st) t ∧ t { nx := fun _ H' => Q .non H', rt := Q } (start N vs) H) : FnOk P w K mg base CX0 (k + 1) f fd ps sp :=
  F.ok S len fun cdv A outer s H vs Q E hr h => by
    obtain ⟨t, p, q⟩ := hbody cdv A outer s H vs Q E hr h
    exact ⟨t, p.p, q⟩
end
end L2

set_option Elab.async false
set_option linter.all false
set_option maxRecDepth 100000
set_option maxHeartbeats 4000000
namespace Mth
theorem frac_lt {p q r s T1 B1 T2 B2 : Int} (hq : 0 < q) (hs : 0 < s) (h1 : 0 < B1) (h2 : 0 < B2) (e1 : p * B1 = T1 * q) (e2 : r * B2 = T2 * s) : p * s < r * q ↔ T1 * B2 < T2 * B1 := by
  have hB : 0 < B1 * B2 := Int.mul_pos h1 h2
  have hQ : 0 < q * s := Int.mul_pos hq hs
  have a1 : p * s * (B1 * B2) = T1 * B2 * (q * s) := by
    have : p * s * (B1 * B2) = (p * B1) * (s * B2) := by grind
    rw [this, e1]; grind
  have a2 : r * q * (B1 * B2) = T2 * B1 * (q * s) := by
    have : r * q * (B1 * B2) = (r * B2) * (q * B1) := by grind
    rw [this, e2]; grind
  constructor
  · intro h
    have := Int.mul_lt_mul_of_pos_right h hB
    rw [a1, a2] at this
    exact Int.lt_of_mul_lt_mul_right this (Int.le_of_lt hQ)
  · intro h
    have := Int.mul_lt_mul_of_pos_right h hQ
    rw [← a1, ← a2] at this
    exact Int.lt_of_mul_lt_mul_right this (Int.le_of_lt hB)
theorem sum_lt {a b c d e f : Int} (hb : 0 < b) (hd : 0 < d) (hf : 0 < f) :
    lowT (a * f + e * b) (b * f) * lowB (c * f + e * d) (d * f) < lowT (c * f + e * d) (d * f) * lowB (a * f + e * b) (b * f) ↔ a * d < c * b := by
  have h1 : 0 < b * f := Int.mul_pos hb hf
  have h2 : 0 < d * f := Int.mul_pos hd hf
  have p1 := lowB_pos (t := a * f + e * b) (show b * f ≠ 0 by omega)
  have p2 := lowB_pos (t := c * f + e * d) (show d * f ≠ 0 by omega)
  rw [frac_lt (by omega) (by omega) h1 h2 (low_cross (by omega)) (low_cross (by omega))]
  have e1 : (c * f + e * d) * (b * f) - (a * f + e * b) * (d * f) = f * f * (c * b - a * d) := by grind
  have hff : 0 < f * f := Int.mul_pos hf hf
  constructor
  · intro h
    have : 0 < f * f * (c * b - a * d) := by omega
    rcases (show c * b - a * d ≤ 0 ∨ 0 < c * b - a * d by omega) with q | q
    · have := Int.mul_nonpos_of_nonneg_of_nonpos (a := f * f) (b := c * b - a * d) (by omega) q
      omega
    · omega
  · intro h
    have := Int.mul_pos hff (show 0 < c * b - a * d by omega)
    omega
end Mth
namespace L2
open PySem PySem.Spec PyProof.Rows
theorem rp2 {K : PySem.W.Frag} {H : Hp} {p : Addr} {a b : Int} (h : H p = some (.tup [.int a, .int b])) : Rp K H (.tuple [.int a, .int b]) (.ref p) := by
  rw [Rp]
  refine ⟨p, _, rfl, SqT.of h, ?_⟩
  rw [RpL]
  refine ⟨_, _, rfl, by rw [Rp], ?_⟩
  rw [RpL]
  refine ⟨_, _, rfl, by rw [Rp], ?_⟩
  rw [RpL]
theorem rp3 {K : PySem.W.Frag} {H : Hp} {p : Addr} {a b c : Int} (h : H p = some (.tup [.int a, .int b, .int c])) : Rp K H (.tuple [.int a, .int b, .int c]) (.ref p) := by
  rw [Rp]
  refine ⟨p, _, rfl, SqT.of h, ?_⟩
  rw [RpL]
  refine ⟨_, _, rfl, by rw [Rp], ?_⟩
  rw [RpL]
  refine ⟨_, _, rfl, by rw [Rp], ?_⟩
  rw [RpL]
  refine ⟨_, _, rfl, by rw [Rp], ?_⟩
  rw [RpL]
theorem eqv2 {a b c d : Int} : PyData.eqv (.tuple [.int a, .int b]) (.tuple [.int c, .int d]) = decide (a = c ∧ b = d) := by
  simp [PyData.eqv, PyData.eqvAll]
  by_cases h1 : a = c <;> by_cases h2 : b = d <;> simp [h1, h2]
theorem eq_back {K : PySem.W.Frag} {H : Hp} {Q : VK} {p q : Addr} {a b c d : Int} (h1 : H p = some (.tup [.int a, .int b])) (h2 : H q = some (.tup [.int c, .int d])) (q' : Q (.bl (decide (a = c ∧ b = d))) H) : rEqD K false (.ref p) (.ref q) H Q :=
  ⟨_, _, rp2 h1, rp2 h2, rfl, rfl, by rw [if_neg Bool.false_ne_true, eqv2]; exact q'⟩
theorem ne_back {K : PySem.W.Frag} {H : Hp} {Q : VK} {p q : Addr} {a b c d : Int} (h1 : H p = some (.tup [.int a, .int b])) (h2 : H q = some (.tup [.int c, .int d])) (q' : Q (.bl (!decide (a = c ∧ b = d))) H) : rEqD K true (.ref p) (.ref q) H Q :=
  ⟨_, _, rp2 h1, rp2 h2, rfl, rfl, by rw [if_pos rfl, eqv2]; exact q'⟩
/-- a list's item at a place that lies in it -/
theorem at_in {xs : List V} {i : Int} (h0 : 0 ≤ i) (h1 : i < xs.length) : ∃ v ∈ xs, atI xs i = some v := by
  have hk : i.toNat < xs.length := by omega
  have ek : i = ((i.toNat : Nat) : Int) := by omega
  refine ⟨xs[i.toNat], List.getElem_mem hk, ?_⟩
  have q : atI xs ((i.toNat : Nat) : Int) = some xs[i.toNat] := atI_nat (List.getElem?_eq_getElem hk)
  rw [← ek] at q
  exact q
theorem cut_ints (ns : List Int) (lo hi : Option Int) : ∃ ms : List Int, cutV (ns.map V.int) lo hi = ms.map V.int ∧ ms.length ≤ ns.length ∧ ∀ m ∈ ms, m ∈ ns := by
  refine ⟨(ns.drop (HT.sIx (ns.map V.int).length 0 lo)).take (HT.sIx (ns.map V.int).length (ns.map V.int).length hi - HT.sIx (ns.map V.int).length 0 lo), ?_, ?_, ?_⟩
  · unfold cutV
    rw [List.map_take, List.map_drop]
  · simp only [List.length_take, List.length_drop]; omega
  · intro m hm
    exact List.mem_of_mem_drop (List.mem_of_mem_take hm)
theorem mem_ints {ns : List Int} {i : Nat} {x : V} (h : (ns.map V.int)[i]? = some x) : ∃ z ∈ ns, x = .int z := by
  rw [List.getElem?_map] at h
  cases e : ns[i]? with
  | none => rw [e] at h; cases h
  | some z =>
    rw [e] at h
    exact ⟨z, List.mem_of_getElem? e, (Option.some.inj h).symm⟩
end L2

set_option Elab.async false
set_option linter.all false
set_option maxRecDepth 100000
set_option maxHeartbeats 4000000
namespace Mth
/-! ### places: three numbers over one bottom -/
def g3 (x y b : Int) : Int := ((Int.gcd ((Int.gcd b x : Nat) : Int) y : Nat) : Int)
theorem g3_dvd_b (x y b : Int) : g3 x y b ∣ b := Int.dvd_trans (Int.gcd_dvd_left _ _) (Int.gcd_dvd_left b x)
theorem g3_dvd_x (x y b : Int) : g3 x y b ∣ x := Int.dvd_trans (Int.gcd_dvd_left _ _) (Int.gcd_dvd_right b x)
theorem g3_dvd_y (x y b : Int) : g3 x y b ∣ y := Int.gcd_dvd_right _ _
theorem g3_pos {x y b : Int} (h : 0 < b) : 0 < g3 x y b := by
  have p := (Int.gcd_pos_iff (a := b) (b := x)).mpr (.inl (by omega))
  have p2 := (Int.gcd_pos_iff (a := ((Int.gcd b x : Nat) : Int)) (b := y)).mpr (.inl (by omega))
  unfold g3
  omega
theorem g3_le {x y b : Int} (h : 0 < b) : (g3 x y b).natAbs ≤ b.natAbs := Nat.le_of_dvd (by omega) (Int.natAbs_dvd_natAbs.mpr (g3_dvd_b x y b))
/-- (u, v, t) is the place x by b, y by b -/
structure Plc (x y b u v t : Int) : Prop where
  pos : 1 ≤ t
  cop : Int.gcd ((Int.gcd u v : Nat) : Int) t = 1
  cx : u * b = x * t
  cy : v * b = y * t
  lu : u.natAbs ≤ x.natAbs
  lv : v.natAbs ≤ y.natAbs
  lt : t.natAbs ≤ b.natAbs
theorem gcd_cast (a b c : Int) : Int.gcd ((Int.gcd a b : Nat) : Int) c = Nat.gcd (Nat.gcd a.natAbs b.natAbs) c.natAbs := rfl
theorem plc_of {x y b : Int} (h : 0 < b) : Plc x y b (x / g3 x y b) (y / g3 x y b) (b / g3 x y b) := by
  have hg := g3_pos (x := x) (y := y) h
  have ex : x = g3 x y b * (x / g3 x y b) := (Int.mul_ediv_cancel' (g3_dvd_x x y b)).symm
  have ey : y = g3 x y b * (y / g3 x y b) := (Int.mul_ediv_cancel' (g3_dvd_y x y b)).symm
  have eb : b = g3 x y b * (b / g3 x y b) := (Int.mul_ediv_cancel' (g3_dvd_b x y b)).symm
  have ee : g3 x y b = ((Nat.gcd (Nat.gcd b.natAbs x.natAbs) y.natAbs : Nat) : Int) := rfl
  refine ⟨?_, ?_, ?_, ?_, natAbs_ediv_le hg, natAbs_ediv_le hg, natAbs_ediv_le hg⟩
  · generalize b / g3 x y b = t at eb
    rcases (show t < 1 ∨ 1 ≤ t by omega) with q | q
    · have : g3 x y b * t ≤ 0 := Int.mul_nonpos_of_nonneg_of_nonpos (by omega) (by omega)
      omega
    · exact q
  · rw [gcd_cast]
    generalize hu : x / g3 x y b = u at ex
    generalize hv : y / g3 x y b = v at ey
    generalize ht : b / g3 x y b = t at eb
    have nx := congrArg Int.natAbs ex
    have ny := congrArg Int.natAbs ey
    have nb := congrArg Int.natAbs eb
    rw [Int.natAbs_mul] at nx ny nb
    have ng : (g3 x y b).natAbs = Nat.gcd (Nat.gcd b.natAbs x.natAbs) y.natAbs := by rw [ee, Int.natAbs_natCast]
    generalize hG : (g3 x y b).natAbs = G at nx ny nb ng
    have hGp : 0 < G := by omega
    rw [nx, ny, nb, Nat.gcd_mul_left, Nat.gcd_mul_left] at ng
    have e1 : G * 1 = G * Nat.gcd (Nat.gcd t.natAbs u.natAbs) v.natAbs := by rw [Nat.mul_one]; exact ng
    have e2 := Nat.eq_of_mul_eq_mul_left hGp e1
    rw [Nat.gcd_comm (Nat.gcd u.natAbs v.natAbs), ← Nat.gcd_assoc]
    exact e2.symm
  · have : x / g3 x y b * b = x / g3 x y b * (g3 x y b * (b / g3 x y b)) := congrArg _ eb
    rw [this, Int.mul_left_comm, ← Int.mul_assoc, ← ex]
  · have : y / g3 x y b * b = y / g3 x y b * (g3 x y b * (b / g3 x y b)) := congrArg _ eb
    rw [this, Int.mul_left_comm, ← Int.mul_assoc, ← ey]
theorem cancel {a b k : Int} (hk : 0 < k) (h : a * k = b * k) : a = b := Int.eq_of_mul_eq_mul_right (by omega) h
/-- a part of a place, at the lowest -/
theorem low_part {x z a b p q : Int} (hz : 0 < z) (h1 : x * b = a * z) (h2 : p * z = x * q) : p * b = a * q := by
  refine cancel hz ?_
  have : p * b * z = p * z * b := by grind
  rw [this, h2]
  have : x * q * b = x * b * q := by grind
  rw [this, h1]
  grind
theorem sum_part {X1 Z1 X2 Z2 a b c d X3 Z3 s : Int} (h1 : 0 < Z1) (h2 : 0 < Z2) (e1 : X1 * b = a * Z1) (e2 : X2 * d = c * Z2) (e3 : X3 * (Z1 * Z2) = (X1 * Z2 + s * (X2 * Z1)) * Z3) : X3 * (b * d) = (a * d + s * c * b) * Z3 := by
  refine cancel (Int.mul_pos h1 h2) ?_
  have : X3 * (b * d) * (Z1 * Z2) = X3 * (Z1 * Z2) * (b * d) := by grind
  rw [this, e3]
  have : (X1 * Z2 + s * (X2 * Z1)) * Z3 * (b * d) = ((X1 * b) * (Z2 * d) + s * ((X2 * d) * (Z1 * b))) * Z3 := by grind
  rw [this, e1, e2]
  grind
theorem times_part {X1 Z1 a b t u X3 Z3 : Int} (h1 : 0 < Z1) (h2 : 0 < u) (e1 : X1 * b = a * Z1) (e3 : X3 * (Z1 * u) = X1 * t * Z3) : X3 * (b * u) = a * t * Z3 := by
  refine cancel h1 ?_
  have : X3 * (b * u) * Z1 = X3 * (Z1 * u) * b := by grind
  rw [this, e3]
  have : X1 * t * Z3 * b = (X1 * b) * t * Z3 := by grind
  rw [this, e1]
  grind
theorem along_part {X Y Z a b c d p q r s : Int} (hZ : 0 < Z) (e1 : X * b = a * Z) (e2 : Y * d = c * Z) (e3 : r * Z = (p * X + q * Y) * s) : r * (b * 1 * (d * 1)) = (a * p * (d * 1) + 1 * (c * q) * (b * 1)) * s := by
  refine cancel hZ ?_
  have : r * (b * 1 * (d * 1)) * Z = r * Z * (b * d) := by grind
  rw [this, e3]
  have : (p * X + q * Y) * s * (b * d) = (p * (X * b) * d + q * (Y * d) * b) * s := by grind
  rw [this, e1, e2]
  grind
end Mth

set_option Elab.async false
set_option linter.all false
set_option maxRecDepth 100000
set_option maxHeartbeats 4000000
namespace L2
open PySem PySem.Spec PyProof.Rows
/-! ### refusals: an own class under ValueError, raised, passed on, taken -/
theorem own_in {K : PySem.W.Frag} {h0 : Heap} {mg : Str → Option Value} {x : Str} {C : Addr} {bmB : List Value} {newId : String} (X : K.In h0) (hm : mg x = some (.ref C)) (q : PySem.W.excIn K C bmB newId = true) : OwnCls x C bmB newId mg h0 := by
  refine ⟨hm, ?_⟩
  unfold PySem.W.excIn at q
  split at q
  · rename_i dd cd sl ho
    split at q
    · rename_i C' bm k0 k1 k2 k3 n k5 hm hs
      simp only [Bool.and_eq_true, beq_iff_eq, Bool.not_eq_true'] at q
      obtain ⟨⟨⟨⟨⟨rfl, rfl⟩, hdel⟩, ht⟩, hok⟩, hni⟩ := q
      obtain ⟨nm, bs, mro, ns, qn, hd, sn, sub, ab, col, del⟩ := cd
      dsimp only at hm hdel hok hni
      subst hm hdel
      have hsl : sl = #[k0, k1, k2, k3, some (.builtin n), k5] := by
        obtain ⟨l⟩ := sl
        simp only at hs
        rw [hs]
      subst hsl
      exact ⟨bm, ns, nm, qn, bs, hd, sn, sub, ab, col, dd, k0, k1, k2, k3, k5, _, X _ _ ho, .of_isNs (PySem.W.isNs_of_in X hok), PySem.W.nsMap_none_of_in X hok hni, PySem.W.tail_of_in X ht⟩
    · cases q
  · cases q
/-- an exception of the class Cv flies: what was there ahead of the call (h0) and is no frame's lies in B, and so do all tracked things -/
structure Fly (P : Program) (w : World) (outer : List Env) (H : Hp) (h0 : Heap) (Cv : Value) (H' : Hp) (ea t : Addr) (B h : Heap) : Prop where
  fl : Heap.FlyingW B outer ea Cv (.ref t) h
  un : Un (frs outer) [] H H' h0 h
  hok : HOk P w H' h
  trk : ∀ b o, H' b = some o → ∃ ob, B.get? b = some ob
  kep : ∀ b o, h0.get? b = some o → b ∉ frs outer → ∃ ob, B.get? b = some ob
def CXe (P : Program) (w : World) : CXT := fun outer H s E e s' => ∃ (ea t : Addr) (Cv : Value) (H' : Hp) (B : Heap), e = .ref ea ∧ Fly P w outer H s.heap Cv H' ea t B s'.heap ∧ AllBare s'.gens ∧ s'.os = s.os ∧ E Cv none H'
section
variable {P : Program} {w : World} {outer : List Env} {H H' : Hp} {h0 h h2 : Heap} {Cv : Value} {ea t : Addr} {B : Heap}
theorem ObjOk.there {a : Addr} {o : HO} (x : ObjOk P w H h a o) : ∃ ob, h.get? a = some ob := by
  cases o with
  | lst xs => obtain ⟨_, _, _, _, e⟩ := x; exact ⟨_, e⟩
  | tup xs => obtain ⟨_, _, _, ob, e, _⟩ := x; exact ⟨_, e⟩
  | dK kvs => obtain ⟨_, _, _, _, o, _, _, e, _⟩ := x; exact ⟨_, e⟩
  | dT kvs => obtain ⟨_, _, _, _, o, _, _, e, _⟩ := x; exact ⟨_, e⟩
  | set S n => obtain ⟨o, _, _, _, e, _⟩ := x; exact ⟨_, e⟩
  | ins C dx fs => obtain ⟨_, _, _, e, _⟩ := x; exact ⟨_, e⟩
  | own y => obtain ⟨_, e⟩ := x; exact ⟨_, e⟩
  | xd fs => obtain ⟨_, ⟨_, _, _, e, _⟩, _⟩ := x; exact ⟨_, e⟩
  | rng lo hi => obtain ⟨_, _, _, e⟩ := x; exact ⟨_, e⟩
  | frz ob u => obtain ⟨e, _⟩ := x; exact ⟨_, e⟩
  | tbl ps => exact ⟨_, (show h.get? a = some _ from x)⟩
  | met f y => exact ⟨_, (show h.get? a = some _ from x)⟩
  | ext φ => obtain ⟨_, ⟨_, e⟩, _⟩ := x; exact ⟨_, e⟩
theorem HOk.over (ok : HOk P w H' h) (trk : ∀ b o, H' b = some o → ∃ ob, B.get? b = some ob) (k1 : B.StaysIn h) (k2 : B.StaysIn h2) : HOk P w H' h2 := fun a o e =>
  (ok a o e).stay (fun b u hb q => by
    have hb' : ∃ o', H' b = some o' := by
      rcases hb with z | z
      · exact ⟨o, by rw [z]; exact e⟩
      · exact ⟨_, z⟩
    obtain ⟨o', hb'⟩ := hb'
    obtain ⟨ob, z⟩ := trk b o' hb'
    have z1 := k1 b ob z
    rw [q] at z1
    cases z1
    exact k2 b u z) (fun _ q => q) fun _ _ q => q
theorem Fly.free (x : Fly P w outer H h0 Cv H' ea t B h) : H' ea = none := by
  cases q : H' ea with
  | none => rfl
  | some o =>
    obtain ⟨ob, z⟩ := x.trk ea o q
    have := x.fl.2.1
    rw [z] at this
    cases this
/-- the flight goes on: the traceback is written, frames' slots turn -/
theorem Fly.on (x : Fly P w outer H h0 Cv H' ea t B h) (f : B.StaysIn h2) (sm : h.UpToSlots h2) : Un (frs outer) [] H H' h0 h2 ∧ HOk P w H' h2 := by
  have fr : ∀ b ∈ frs outer, ∃ o, h.get? b = some o ∧ ∀ vs, o.data ≠ .fields vs := fun b hb => (x.fl.2.2.1.mem hb).2
  refine ⟨⟨fun b o e n hb hx => ?_, fun b o e n hb hx => ?_, x.un.free, fun b o e hx => ?_, x.un.tups, x.un.frzs, x.un.tbls⟩, x.hok.over x.trk x.fl.1 f⟩
  · obtain ⟨ob, z⟩ := x.kep b o e hb
    have z1 := x.fl.1 b ob z
    rw [x.un.keep b o e n hb hx] at z1
    cases z1
    exact f b _ z
  · obtain ⟨sl, z⟩ := x.un.slot b o e n hb hx
    obtain ⟨o', z', d⟩ := fr b hb
    rw [z] at z'
    cases z'
    obtain ⟨sl', z2⟩ := sm b _ z d
    exact ⟨sl', z2⟩
  · by_cases hb : b ∈ frs outer
    · obtain ⟨o', z', d⟩ := fr b hb
      obtain ⟨sl', z2⟩ := sm b _ z' d
      exact ⟨_, z2⟩
    · obtain ⟨ob, z⟩ := x.kep b o e hb
      exact ⟨ob, f b ob z⟩
end
section
variable {P : Program} {w : World} {K : PySem.W.Frag} {mg : Str → Option Value} {base : Heap} {N : List Str} {qual : Str} {sc : Scope} {f : Addr} {cdv : Value} {A : Around} {outer : List Env} {s : Shared} {H : Hp} {E : XK}
/-- an exception of a callee leaves this def too -/
theorem passE : Passes (CXe P w) ((cxOf (CXe P w) P w K mg base N qual sc f cdv A outer s H E).wish (cxOf (CXe P w) P w K mg base N qual sc f cdv A outer s H E).xe) E := by
  intro pins σ H1 s1 e s' I hx
  obtain ⟨ea, t, Cv, H', B, rfl, F, hb, ho, q⟩ := hx
  show wpAny (model P w) _ (leaving _ (.ref ea)) _ _ s'
  have hfr := I.ok.frames
  refine wpAny_leaves_onW hfr rfl F.fl fun h2 hfl2 sm => ?_
  obtain ⟨un2, hok2⟩ := F.on hfl2.1 sm
  have u1 : Un (frs outer) [] H H1 s.heap s1.heap := I.base
  have sz : ∀ b o, s.heap.get? b = some o → b ≠ s.heap.objs.size := fun b o e => Nat.ne_of_lt (Heap.lt_size e)
  have nin : ∀ b o, s.heap.get? b = some o → b ∉ frs outer → b ∉ frs (envOfC qual sc s.heap.objs.size f cdv :: outer) := fun b o e hb z => by
    rcases List.mem_cons.mp (I.stkSub b z) with y | y
    · exact sz b o e y
    · exact hb y
  refine ⟨ea, t, Cv, H', B, rfl, ⟨hfl2, ⟨fun b o e n hb _ => ?_, fun b o e n hb _ => ?_, fun b o e n _ => ?_, fun b o e _ => ?_, fun b xs e => un2.tups b xs (u1.tups b xs e), fun b o u e => un2.frzs b o u (u1.frzs b o u e), fun b ps e => ?_⟩, hok2, F.trk, fun b o e hb => ?_⟩, hb, ho.trans I.os, q⟩
  · exact un2.keep b o (u1.keep b o e n hb (by simp)) (u1.free b o e n (by simp)) (nin b o e hb) (by simp)
  · obtain ⟨sl, z⟩ := u1.slot b o e n hb (by simp)
    obtain ⟨sl2, z2⟩ := un2.any z (u1.free b o e n (by simp)) (by simp)
    exact ⟨sl2, z2⟩
  · obtain ⟨o', z⟩ := u1.there b o e (by simp)
    exact un2.free b o' z (u1.free b o e n (by simp)) (by simp)
  · obtain ⟨o', z⟩ := u1.there b o e (by simp)
    exact un2.there b o' z (by simp)
  · obtain ⟨m1, e1⟩ := u1.tbls b ps e
    obtain ⟨m2, e2⟩ := un2.tbls b _ e1
    exact ⟨m1 ++ m2, by rw [e2, Array.append_assoc]⟩
  · obtain ⟨o', z⟩ := u1.there b o e (by simp)
    exact F.kep b o' z (nin b o e hb)
end
section
variable {P : Program} {w : World} {K : PySem.W.Frag} {mg : Str → Option Value} {base : Heap} {N : List Str} {qual : Str} {sc : Scope} {f : Addr} {cdv : Value} {A : Around} {outer : List Env} {s : Shared} {H : Hp} {E : XK}
/-- an own class under ValueError, as the top wrote it -/
structure Exc (K : PySem.W.Frag) (mg : Str → Option Value) (x : Str) (C : Addr) : Prop where
  nm : mg x = some (.ref C)
  ok : ∃ newId initId bm, ExcBaseFacts "ValueError" newId initId bm ∧ PySem.W.excIn K C bm newId = true
def tRaise (E : XK) (C : Addr) : TS := fun _ _ H => E (.ref C) none H
theorem qs_raise {x : Str} {C : Addr} {m : Str} {np cpos pos p2 : Pos} {j} (T : Exc K mg x C) (hg : Gl ((cxOf (CXe P w) P w K mg base N qual sc f cdv A outer s H E).wish (cxOf (CXe P w) P w K mg base N qual sc f cdv A outer s H E).xe) x) (hdb : (x == ("__debug__" : Str)) = false := by decide) :
    QS ((cxOf (CXe P w) P w K mg base N qual sc f cdv A outer s H E).wish (cxOf (CXe P w) P w K mg base N qual sc f cdv A outer s H E).xe) (.Raise (some (.Call (.Name x np) [.Constant (.str m) j p2] [] cpos)) none pos) (tRaise E C) := by
  constructor
  intro pins s1 σ H1 D I q
  obtain ⟨newId, initId, bmB, FB, hex⟩ := T.ok
  obtain ⟨bm, Nn, nm, qn, bs, hdct, sn, sub, ab, col, dd, k0, k1, k2, k3, k5, mN, hC, hN, hni, TT⟩ := (own_in I.mod.kin T.nm hex).obj
  refine wpAny_Raise_call_subT (C := C) (nm := nm) (q := qn) (N := Nn) (bs := bs) (bm := bm) (hdct := hdct) (sn := sn) (sub := sub) (ab := ab) (col := col) (dd := dd) (k0 := k0) (k1 := k1) (k2 := k2) (k3 := k3) (k5 := k5) FB (mN := mN) (TT.hasType FB.hasBase) (I.ok.hd rfl) rfl hni (ld_glob I hg T.nm ⟨rfl, ?_⟩ hdb)
  refine Calls.evalArgs_plain (wpAny_mono ((pa_cons pe_str pa_nil) cpos pins s1 σ H1 (fun vs H2 => vs = [V.str m] ∧ H2 = H1) I ⟨rfl, rfl⟩) (fun us s2 h2 => ?_) fun _ _ y => y)
  obtain ⟨vs, H2, I2, rv, rfl, rfl⟩ := h2
  obtain ⟨u, rfl, _⟩ := vals1 rv
  refine ⟨rfl, (by show 1 ≤ sizeLine; decide), I2.bk _ _ hC, hN.keeps I2.bk, TT.keeps I2.bk, fun h' e hx => ?_⟩
  -- the def is left
  show wpAny (model P w) _ (leaving _ (.ref e)) _ _ _
  have fin : ∀ env ∈ (envOfC qual sc s.heap.objs.size f cdv :: outer), ∀ b, env.frame = some b → b ∈ frs (envOfC qual sc s.heap.objs.size f cdv :: outer) := fun env he b hb => List.mem_filterMap.mpr ⟨env, he, hb⟩
  refine wpAny_leaves_madeW (base := PySem.W.hideAll s2.heap (frs (envOfC qual sc s.heap.objs.size f cdv :: outer))) (h := s2.heap) I2.ok.frames rfl (fun b o q => PySem.W.of_hideAll _ q) (PySem.W.funFrames_hide I2.stack fin) hx fun h2 t x1 x2 x3 x4 => ?_
  have u1 : Un (frs outer) [] H H2 s.heap s2.heap := I2.base
  have sz : ∀ b o, s.heap.get? b = some o → b ≠ s.heap.objs.size := fun b o e => Nat.ne_of_lt (Heap.lt_size e)
  have nin : ∀ b o, s.heap.get? b = some o → b ∉ frs outer → b ∉ frs (envOfC qual sc s.heap.objs.size f cdv :: outer) := fun b o e hb z => by
    rcases List.mem_cons.mp (I2.stkSub b z) with y | y
    · exact sz b o e y
    · exact hb y
  have inB : ∀ b o, s2.heap.get? b = some o → b ∉ frs (envOfC qual sc s.heap.objs.size f cdv :: outer) → (PySem.W.hideAll s2.heap (frs (envOfC qual sc s.heap.objs.size f cdv :: outer))).get? b = some o := fun b o e hb => PySem.W.hideAll_get _ e hb
  have trk : ∀ b o, H2 b = some o → ∃ ob, (PySem.W.hideAll s2.heap (frs (envOfC qual sc s.heap.objs.size f cdv :: outer))).get? b = some ob := fun b o e => by
    obtain ⟨ob, z⟩ := (I2.hok b o e).there
    refine ⟨ob, inB b ob z fun y => ?_⟩
    rw [I2.stkFree b y] at e
    cases e
  have stay := x1.1
  have hok2 : HOk P w H2 h2 := I2.hok.over trk (fun b o q => PySem.W.of_hideAll _ q) stay
  have fr : ∀ b ∈ frs outer, ∃ o, s2.heap.get? b = some o ∧ ∀ vs, o.data ≠ .fields vs := fun b hb => (I2.stack.mem (List.mem_cons_of_mem _ hb)).2
  have up : s2.heap.UpToSlots h2 := (Heap.UpToSlots.of_keeps hx.keeps).trans x4
  refine ⟨e, t, .ref C, H2, _, rfl, ⟨x1, ⟨fun b o e n hb _ => ?_, fun b o e n hb _ => ?_, u1.free, fun b o e _ => ?_, u1.tups, u1.frzs, u1.tbls⟩, hok2, trk, fun b o e hb => ?_⟩, I2.bare, I2.os, q⟩
  · exact stay b o (inB b o (u1.keep b o e n hb (by simp)) (nin b o e hb))
  · obtain ⟨sl, z⟩ := u1.slot b o e n hb (by simp)
    obtain ⟨o', z', d⟩ := fr b hb
    rw [z] at z'
    cases z'
    obtain ⟨sl', z2⟩ := up b _ z d
    exact ⟨sl', z2⟩
  · obtain ⟨o', z⟩ := u1.there b o e (by simp)
    by_cases hb : b ∈ frs outer
    · obtain ⟨o2, z', d⟩ := fr b hb
      obtain ⟨sl', z2⟩ := up b _ z' d
      exact ⟨_, z2⟩
    · exact ⟨o', stay b o' (inB b o' z (nin b o e hb))⟩
  · obtain ⟨o', z⟩ := u1.there b o e (by simp)
    exact ⟨o', inB b o' z (nin b o e hb)⟩
theorem Fun.okE {x : Str} {st : Stmt} {fd : FuncData} {ps : List Str} {k : Nat} {sp : Sp} (F : Fun K x qual st f fd) (S : FnScope N ps (defScope st)) (len : ∀ vs H Q E, sp vs H Q E → vs.length = ps.length)
    (hbody : ∀ (cdv : Value) (A : Around) (outer : List Env) (s : Shared) (H : Hp) (vs : List V) (Q : VK) (E : XK), Room k (A.deeper (envOfC qual (defScope st) s.heap.objs.size f cdv)) → sp vs H Q E →
      ∃ t, QSs ((cxOf (CXe P w) P w K mg base N qual (defScope st) f cdv A outer s H E).wish (cxOf (CXe P w) P w K mg base N qual (defScope st) f cdv A outer s H E).xe) (defBody st) t ∧ t { nx := fun _ H' => Q .non H', rt := Q } (start N vs) H) : FnOk P w K mg base (CXe P w) (k + 1) f fd ps sp := by
  obtain ⟨oc, od, kV, doc, pm, an, cdv, ct, osl, rfl, lk, hcd⟩ := F.ex
  refine fn_of lk hcd S len fun A outer s H vs Q E hr hsp => ?_
  obtain ⟨t, h, q⟩ := hbody cdv A outer s H vs Q E hr hsp
  exact ⟨t, h.p, q⟩
theorem Fun.okN {x : Str} {st : Stmt} {fd : FuncData} {ps : List Str} {k : Nat} {sp : Sp} (F : Fun K x qual st f fd) (S : FnScope N ps (defScope st)) (len : ∀ vs H Q E, sp vs H Q E → vs.length = ps.length)
    (hbody : ∀ (cdv : Value) (A : Around) (outer : List Env) (s : Shared) (H : Hp) (vs : List V) (Q : VK) (E : XK), Room k (A.deeper (envOfC qual (defScope st) s.heap.objs.size f cdv)) → sp vs H Q E →
      ∃ t, QSs ((cxOf (CXe P w) P w K mg base N qual (defScope st) f cdv A outer s H E).wish fun _ _ => False) (defBody st) t ∧ t { nx := fun _ H' => Q .non H', rt := Q } (start N vs) H) : FnOk P w K mg base (CXe P w) (k + 1) f fd ps sp := by
  obtain ⟨oc, od, kV, doc, pm, an, cdv, ct, osl, rfl, lk, hcd⟩ := F.ex
  refine fn_of lk hcd S len fun A outer s H vs Q E hr hsp => ?_
  obtain ⟨t, h, q⟩ := hbody cdv A outer s H vs Q E hr hsp
  exact ⟨t, h.p.nox, q⟩
theorem passE0 {X : Cx} : Passes (CXe P w) X E0 := fun _ _ _ _ _ _ _ ⟨_, _, _, _, _, _, _, _, _, q⟩ => q.elim
end
end L2

set_option Elab.async false
set_option linter.all false
set_option maxRecDepth 100000
set_option maxHeartbeats 4000000
namespace L2
open PySem PySem.Spec PyProof.Rows
/-! ### try: x = f(..) except C: suite -/
@[reducible] def Cx.suite (X : Cx) (ea : Addr) : Cx := { X with A := X.A.mark (some (.ref ea)), calm := false, xe := fun _ _ => False }
@[reducible] def Cx.within (X : Cx) (pins : List (Addr × Obj)) (xe : Value → Shared → Prop) : Cx := { X with pn := X.pn ++ pins, xe := xe }
section
variable {X : Cx} {pins : List (Addr × Obj)} {σ : St} {H : Hp} {s : Shared} {ea : Addr} {xe : Value → Shared → Prop}
theorem Cx.Ok.suite (o : X.Ok) : (X.suite ea).Ok := ⟨o.mod, o.kind, o.glob, o.blt, o.above, o.inj, o.has, o.cab, (fun z => by cases z), o.frames, o.stk, o.exf, o.bs, o.bsz, o.noex, o.exfs, o.funs, o.frf⟩
theorem Cx.Ok.within (o : X.Ok) : (X.within pins xe).Ok := ⟨o.mod, o.kind, o.glob, o.blt, o.above, o.inj, o.has, o.cab, o.hd, o.frames, o.stk, o.exf, o.bs, o.bsz, o.noex, o.exfs, o.funs, o.frf⟩
theorem Inv.suite (I : Inv X pins σ H s) : Inv (X.suite ea) pins σ H s := ⟨I.ok.suite, I.os, I.bare, I.base, I.loc, I.cell, I.free, I.freeC, I.pin, I.hok, I.len⟩
theorem Inv.within (I : Inv X pins σ H s) : Inv (X.within pins xe) [] σ H s := ⟨I.ok.within, I.os, I.bare, I.base, I.loc, I.cell, I.free, I.freeC, (fun p hp => I.pin p (by simpa using hp)), I.hok, I.len⟩
theorem Inv.out {pins' : List (Addr × Obj)} (ok : X.Ok) (I : Inv (X.within pins xe) pins' σ H s) : Inv X pins σ H s := ⟨ok, I.os, I.bare, I.base, I.loc, I.cell, I.free, I.freeC, (fun p hp => I.pin p (List.mem_append_left _ hp)), I.hok, I.len⟩
theorem SP.out {pins' : List (Addr × Obj)} (ok : X.Ok) {D : Ends} {f : Flow} (h : SP (X.within pins xe) pins' D f s) : SP X pins D f s := by
  cases f with
  | next => obtain ⟨σ', H', I, q⟩ := h; exact ⟨σ', H', I.out ok, q⟩
  | brk => obtain ⟨σ', H', I, q⟩ := h; exact ⟨σ', H', I.out ok, q⟩
  | cont => obtain ⟨σ', H', I, q⟩ := h; exact ⟨σ', H', I.out ok, q⟩
  | ret u => obtain ⟨v, σ', H', I, r, q⟩ := h; exact ⟨v, σ', H', I.out ok, r, q⟩
theorem Inv.unsuite (ok : X.Ok) (I : Inv (X.suite ea) pins σ H s) : Inv X pins σ H s := ⟨ok, I.os, I.bare, I.base, I.loc, I.cell, I.free, I.freeC, I.pin, I.hok, I.len⟩
theorem SP.unsuite (ok : X.Ok) {D : Ends} {f : Flow} (h : SP (X.suite ea) pins D f s) : SP X pins D f s := by
  cases f with
  | next => obtain ⟨σ', H', I, q⟩ := h; exact ⟨σ', H', I.unsuite ok, q⟩
  | brk => obtain ⟨σ', H', I, q⟩ := h; exact ⟨σ', H', I.unsuite ok, q⟩
  | cont => obtain ⟨σ', H', I, q⟩ := h; exact ⟨σ', H', I.unsuite ok, q⟩
  | ret u => obtain ⟨v, σ', H', I, r, q⟩ := h; exact ⟨v, σ', H', I.unsuite ok, r, q⟩
end
/-- what the body's one call wants, and the suite where its exception is taken -/
def tTry (tg : V → St → St) (sp : Sp) (ta : TA) (mt : Value → Prop) (ts : TS) : TS := fun D σ H => ta σ H fun vs H1 => sp (vs ++ []) H1 (fun v H2 => D.nx (tg v σ) H2) fun Cv _ H2 => mt Cv ∧ ts D σ H2
section
variable {X : Cx} {k : Nat} {ps : List Str} {sp : Sp} {x g cx : Str} {e : Expr} {es : List Expr} {ta : TA} {C2 : Addr} {b0 : Stmt} {suite : List Stmt} {ts : TS} {p1 p2 p3 p4 p5 p6 pos : Pos}
/-- an exception that came out of a call is taken by the one clause -/
theorem taken {pins : List (Addr × Obj)} {σ : St} {H1 : Hp} {s1 s' : Shared} {ev : Value} {D : Ends} {Q : Flow → Shared → Prop} {E' : Value → Shared → Prop} (I1 : Inv X pins σ H1 s1) (hst : X.stack = X.env :: X.outer ∧ X.env.frame = some X.env.locals)
    (T : Exc X.K X.mg cx C2) (hgc : Gl X cx) (hs : ∀ ea, QSs (X.suite ea) (b0 :: suite) ts) (hx : CXe X.prog X.w X.stack H1 s1 (fun Cv _ H2 => PySem.W.exmOne X.K Cv (.ref C2) = some true ∧ ts D σ H2) ev s')
    (hQ : ∀ f s2, SP X pins D f s2 → Q f s2) (hdb : (cx == ("__debug__" : Str)) = false) :
    wpAny (model X.prog X.w) X.A (noteFrame ev X.env) (fun _ s2 => wpAny (model X.prog X.w) X.A (setFlight ev none) (fun _ s3 => wpAny (model X.prog X.w) X.A (handleBy ev X.env (.ExceptHandler (some (.Name cx p5)) none (b0 :: suite) p6 :: [])) Q E' s3) E' s2) E' s' := by
  obtain ⟨ea, t, Cv, H2, B, rfl, F, hb, ho, hm, q⟩ := hx
  have F' := F.fl
  rw [hst.1] at F'
  refine wpAny_looks_onW (by rw [I1.ok.frames, hst.1]) hst.2 F' fun h4 held4 sm4 => ?_
  refine wpAny_landsW held4 fun h5 fl5 sm5 => ?_
  obtain ⟨un5, hok5⟩ := F.on fl5.1 (sm4.trans sm5)
  have I5 : Inv X pins σ H2 { s' with heap := h5 } := I1.call' (s' := { s' with heap := h5 }) ho un5 hok5 hb (fun b z => by simp at z)
  refine wpAny_handleBy_cons (codeAny_handlers_test ?_) (by intro z; cases z)
  refine ld_glob (X := X.suite ea) I5.suite hgc T.nm ?_ hdb
  obtain ⟨ob, hob, hobc⟩ := fl5.there
  have LT : PySem.W.Looks (model X.prog X.w) h5 (typeOf (.ref ea)) Cv := by
    rw [← hobc]
    exact (PySem.W.Looks.ld hob).andThen .now
  refine (PySem.W.exm_one I5.kIn LT hm) _ _ _ _ (fun _ _ z => z) ?_
  show codeAny _ _ _ _ _
  refine codeAny_handlers_suite ?_
  refine lands_againW fl5 fun h6 fl6 sm6 => ?_
  have F5 : Fly X.prog X.w X.stack H1 s1.heap Cv H2 ea t B h5 := ⟨hst.1 ▸ fl5, un5, hok5, F.trk, F.kep⟩
  obtain ⟨un6, hok6⟩ := F5.on fl6.1 sm6
  have I6 : Inv X pins σ H2 { s' with heap := h6 } := I1.call' (s' := { s' with heap := h6 }) ho un6 hok6 hb (fun b z => by simp at z)
  exact wpAny_mono ((hs ea).p pins _ σ H2 D I6.suite q) (fun f s7 z => hQ f s7 (z.unsuite I1.ok)) fun _ _ z => z.elim
/-- x = f(..) -/
theorem qs_try {i : Nat} (hst : X.stack = X.env :: X.outer ∧ X.env.frame = some X.env.locals) (C : Cal X.prog X.w X.K X.mg X.base (CXe X.prog X.w) k g ps sp) (hr : Room k X.A) (ha : ∀ pins xe, QA (X.within pins xe) (e :: es) ta) (hg : Gl X g) (hdg : (g == ("__debug__" : Str)) = false)
    (hN : X.N.Nodup) (hi : X.N[i]? = some x) (hx : Loc X.env.scope x) (hf : X.fn x = true ∨ X.env.scope.names.lookup x = some .local) (T : Exc X.K X.mg cx C2) (hgc : Gl X cx) (hdc : (cx == ("__debug__" : Str)) = false) (hs : ∀ ea, QSs (X.suite ea) (b0 :: suite) ts)
    (he : starEach (e :: es) X.env = (false, eval e X.env) :: starEach es X.env := by rfl) (hpl : (backTo p3 (starEach es X.env)).any (·.1) = false := by rfl)
    (hsw : swapsWith (.Call (.Name g p2) (e :: es) [] p3) (some (.Name x p1)) p4.line X.env = pure false := by rfl) :
    QS X (.Try [.Assign [.Name x p1] (.Call (.Name g p2) (e :: es) [] p3) p4] [.ExceptHandler (some (.Name cx p5)) none (b0 :: suite) p6] [] [] pos) (tTry (fun v σ => σ.set i (some v)) sp ta (fun Cv => PySem.W.exmOne X.K Cv (.ref C2) = some true) ts) := by
  constructor
  intro pins s σ H D I h
  obtain ⟨f, fd, F, hm, hk, hb⟩ := C.ex
  refine wpAny_Try_except ?_
  generalize hxe : (fun (e : Value) (s1 : Shared) => wpAny (model X.prog X.w) X.A (noteFrame e X.env) (fun _ s2 => wpAny (model X.prog X.w) X.A (setFlight e none) (fun _ s3 => wpAny (model X.prog X.w) X.A (handleBy e X.env [.ExceptHandler (some (.Name cx p5)) none (b0 :: suite) p6]) (SP X pins D) X.xe s3) X.xe s2) X.xe s1) = xe
  have call : PE (X.within pins xe) (.Call (.Name g p2) (e :: es) [] p3) (fun σ' H' Q => σ' = σ ∧ ta σ' H' fun vs H1 => sp (vs ++ []) H1 Q fun Cv _ H2 => PySem.W.exmOne X.K Cv (.ref C2) = some true ∧ ts D σ H2) := by
    intro pins' s' σ' H' Q' I' h'
    obtain ⟨rfl, h'⟩ := h'
    refine wpAny_Call_Name_kw (ld_glob I' hg hm ?_ hdg)
    refine PySem.W.callWith_K (h₀ := X.base) I'.ok.mod.kin hk (thn ((ha pins xe).p p3 pins' s' σ' H' _ I' h') fun us s1 ⟨vs, H1, I1, r, q⟩ => ⟨I1.kIn, ?_⟩) he hpl
    have r2 : Vals (vs ++ []) (us ++ []) := r.append .nil
    have hl : (us ++ []).length = ps.length := by rw [← r2.length]; exact F.len _ _ _ _ q
    refine wpAny_call (codeAny_mono (F.run X.A X.stack s1 H1 ⟨us, []⟩ (us ++ []) (vs ++ []) Q' _ hr I1.env0 (hb s1 us I1.kIn hl) r2 q) fun rr s2 hq => ?_)
    cases rr with
    | ok fl =>
      cases fl with
      | ret u => exact I1.after hq
      | next => exact False.elim hq
      | brk => exact False.elim hq
      | cont => exact False.elim hq
    | error ev =>
      show xe ev s2
      rw [← hxe]
      exact taken (I1.out I.ok) hst T hgc hs hq (fun _ _ z => z) hdc
  have body := pss_one (ps_set (X := X.within pins xe) (i := i) (pos := p4) (pos' := p1) hN hi hx call hsw hf)
  refine wpAny_mono (body [] s σ H { D with nx := D.nx } I.within ⟨rfl, h⟩) (fun fl s2 z => ?_) fun ev s2 z => ?_
  · have z' := SP.out I.ok z
    cases fl with
    | next => exact wpAny_execs_nil z'
    | brk => exact z'
    | cont => exact z'
    | ret u => exact z'
  · exact z
theorem qs_set {i : Nat} {x : Str} {e : Expr} {te : TE} {p1 pos : Pos} (hN : X.N.Nodup) (hi : X.N[i]? = some x) (hx : Loc X.env.scope x) (he : QE X e te) (hs : swapsWith e (some (.Name x p1)) pos.line X.env = pure false := by rfl) (hf : X.fn x = true ∨ X.env.scope.names.lookup x = some .local := by first | exact .inl rfl | exact .inr rfl | assumption) :
    QS X (.Assign [.Name x p1] e pos) (tAsg te (gName i)) := ⟨ps_set hN hi hx he.p hs hf⟩
end
end L2

set_option Elab.async false
set_option linter.all false
set_option maxRecDepth 100000
set_option maxHeartbeats 4000000
namespace L2
open PySem PySem.Spec PyProof.Rows
/-! ### isinstance of an exception of an own class -/
def excLook (K : PySem.W.Frag) (C : Addr) : Bool :=
  (PySem.W.findIn K (.ref C) "__getattribute__" == some (some (.builtin "BaseException.__getattribute__"))) && ((PySem.W.findIn K (.ref C) "__getattr__").isSome) &&
  (PySem.W.findIn K (.ref C) "__class__" == some (some (.builtin "object.__class__"))) && (PySem.W.subIn K (.ref C) (.type "BaseException") == some true) && (PySem.W.subIn K (.ref C) (.type "object") == some true) && (PySem.W.clsIn K C).isSome
def ExcAt (a C : Addr) (h : Heap) : Prop := ∃ o, h.get? a = some o ∧ o.cls = .ref C ∧ ∃ vs, o.data = .fields vs
theorem ExcAt.ty {M : Model} {a C : Addr} {h : Heap} (x : ExcAt a C h) : PySem.W.Looks M h (typeOf (.ref a)) (.ref C) := by
  obtain ⟨o, h1, h2, _⟩ := x
  rw [← h2]
  exact (PySem.W.Looks.ld h1).andThen .now
theorem isType_own {K : PySem.W.Frag} {M : Model} {C : Addr} {h : Heap} (X : K.In h) (e : (PySem.W.clsIn K C).isSome = true) : PySem.W.Looks M h (isType (.ref C)) true := by
  obtain ⟨cd, hc⟩ := Option.isSome_iff_exists.mp e
  unfold PySem.W.clsIn at hc
  split at hc
  · rename_i c' d' cd' sl' ho
    intro A' Q' E' s' k q
    unfold isType loadHead
    exact wpAny_bind (wpAny_loadPart (k _ _ (X _ _ ho)) (wpAny_pure q))
  · cases hc
section
open PySem.W
variable {prog : Program} {w : World} {A : Around} {E : Value → Shared → Prop} {s : Shared} {K : PySem.W.Frag} {a C : Addr}
theorem exc_cget {tp : Value} {R : Result → Shared → Prop} (X : K.In s.heap) (x : ExcAt a C s.heap) (hm : PySem.W.subIn K (.ref C) (.type "object") = some true) (h : R (.ok (.ret (.ref C))) s) :
    codeAny (model prog w) A (.call (.builtin "getset_descriptor.__get__") ⟨[.builtin "object.__class__", .ref a, tp], []⟩) R s := by
  obtain ⟨hh, g, dr, t, os⟩ := s
  have L0 := x.ty (M := model prog w)
  have L1 := looks_subIn (M := model prog w) X hm
  refine codeAny_call_builtin KF.slot_gs.plain KF.entry_gs (KF.slot_gs.check _ _ _ _ _ _ _ _ KF.type_class (KF.args_gs _ _ _) ?_)
  unfold Builtin.«getset_descriptor.__get__» Builtin.Getset_descriptor.descrGet
  rw [dga_obj]
  refine wpAny_bind (wpAny_pure ?_)
  unfold Builtin.Getset_descriptor.descrGetter Builtin.Getset_descriptor.descrCheckInstance Builtin.Getset_descriptor.descrNameAndClass isInstance
  simp only [KF.owner_class]
  repeat lk
  refine ⟨Code.quiet_builtin _ (by decide +kernel), codeAny_builtin KF.entry_class ?_⟩
  unfold Builtin.«object.__class__» shownTypeOf
  repeat lk
  exact h
end
end L2
namespace L2
open PySem PySem.Spec PyProof.Rows
section
open PySem.W
variable {prog : Program} {w : World} {A : Around} {E : Value → Shared → Prop} {s : Shared} {K : PySem.W.Frag} {a C : Addr}
theorem exc_ga {tk : Tok} {Q : Fin → Shared → Prop} (X : K.In s.heap) (x : ExcAt a C s.heap) (hm : PySem.W.subIn K (.ref C) (.type "object") = some true) (ha : PySem.W.findIn K (.ref C) "__class__" = some (some (.builtin "object.__class__")))
    (h : Q (.done (.ret (.ref C))) s) : wpAny (model prog w) A (Builtin.«object.__getattribute__» ⟨[.ref a, .str "__class__" tk], []⟩) Q E s := by
  obtain ⟨hh, g, dr, t, os⟩ := s
  have L0 := x.ty (M := model prog w)
  have L1 := looks_findIn (M := model prog w) X ha
  have f5 := F.typeOf_object_class
  have f6 := F.slot_gs_get.lookup
  have f7 := F.slot_gs_set.lookup
  have hT5 : (⟨hh, g, dr, t, os⟩ : Shared).TypeIs (.builtin "object.__class__") "getset_descriptor" := F.typeOf_object_class
  repeat (any_goals (first | assumption | with_reducible refine Looks.at L0 ?_ | with_reducible refine Looks.at L1 ?_ | wp_step))
  refine exc_cget X x hm ?_
  repeat (any_goals (first | assumption | wp_step))
theorem exc_class {Q : Option Value → Shared → Prop} (hL : excLook K C = true) (X : K.In s.heap) (x : ExcAt a C s.heap) (h : Q (some (.ref C)) { s with toks := s.toks + 1 }) : wpAny (model prog w) A (getAttr? (.ref a) "__class__") Q E s := by
  unfold excLook at hL
  simp only [Bool.and_eq_true, beq_iff_eq] at hL
  obtain ⟨⟨⟨⟨⟨h1, h2⟩, h3⟩, h4⟩, h5⟩, h6⟩ := hL
  obtain ⟨r2, h2⟩ := Option.isSome_iff_exists.mp h2
  obtain ⟨hh, g, dr, t, os⟩ := s
  have L0 := x.ty (M := model prog w)
  have L1 := looks_findIn (M := model prog w) X h1
  have L2' := looks_findIn (M := model prog w) X h2
  unfold getAttr? getAttrBy? getAttrBy
  refine wpAny_bind (wpAny_mkText (wpAny_bind (wpAny_attempt (wpAny_holding (wpAny_bind (L0.at (wpAny_bind (L1.at ?_))))))))
  dsimp only
  rw [show (onTheHeap (Value.ref C) && Value.builtin "BaseException.__getattribute__" == Value.builtin "object.__getattribute__") = false from by rw [show (Value.builtin "BaseException.__getattribute__" == Value.builtin "object.__getattribute__") = false from by decide +kernel, Bool.and_false], if_neg (by decide)]
  unfold getAttrByItsOwn hookBefore
  refine wpAny_bind (L2'.at (wpAny_bind (wpAny_attempt (wpAny_holding ?_))))
  unfold callGetattribute
  rw [show (false && onTheHeap (Value.builtin "BaseException.__getattribute__")) = false from rfl, if_neg (by decide)]
  unfold boundAndCalled
  rw [F.attrBase_ValueError.ga.bind]
  refine wpAny_bind (wpAny_pure ?_)
  show wpAny _ _ (call (.builtin "BaseException.__getattribute__") [.ref a, .str "__class__" t]) _ _ _
  refine wpAny_call ?_
  refine codeAny_call_builtin F.attrBase_ValueError.ga.plain F.entry_bexc_ga ?_
  refine @check_slot (model prog w) _ _ ⟨hh, g, dr, t + 1, os⟩ "BaseException.__getattribute__" "BaseException" "__getattribute__" (.ref a) [.str "__class__" t] [] _ (by decide +kernel) (by decide +kernel) (L0.andThen (looks_subIn X h4)) (F.args_bexc_ga (.ref a) (.str "__class__" t)) ?_
  refine exc_ga (s := ⟨hh, g, dr, t + 1, os⟩) X x h5 h3 ?_
  exact wpAny_pure (wpAny_pure h)
theorem kitx_exc (hL : excLook K C = true) : KitX K (.ref a) (.ref C) (ExcAt a C) where
  ty := fun _ _ _ x => x.ty
  it := fun _ _ X _ => isType_own X (by
    unfold excLook at hL
    simp only [Bool.and_eq_true] at hL
    exact hL.2)
  ne := fun h tp dd its n sl X htp => by
    unfold excLook at hL
    simp only [Bool.and_eq_true] at hL
    obtain ⟨cd, hc⟩ := Option.isSome_iff_exists.mp hL.2
    refine Bool.eq_false_iff.mpr fun q => ?_
    have e : C = tp := Value.ref.inj (beq_iff_eq.mp q)
    subst e
    unfold clsIn at hc
    split at hc
    · rename_i c' d' cd' sl' ho
      have z := (X _ _ ho).symm.trans htp
      cases z
    · cases hc
  ca := fun X x k => exc_class hL X x k
end
end L2
namespace L2
open PySem PySem.Spec PyProof.Rows
section
variable {X : Cx}
theorem vals_refs : ∀ (cs : List Addr) {us : List Value}, Vals (cs.map V.ref) us → us = cs.map Value.ref
  | [], _, r => by cases r; rfl
  | c :: cs, _, r => by
    cases r with
    | cons r1 r2 =>
      rw [vals_refs cs r2]
      cases (show _ = Value.ref c from r1)
      rfl
def rIsiX (K : PySem.W.Frag) : List V → Hp → VK → Prop := fun xs H Q => ∃ (ea C : Addr) (y : V) (b : Bool), xs = [.ref ea, y] ∧ H ea = some (.ext (ExcAt ea C)) ∧ excLook K C = true ∧
  ((∃ C2, y = .ref C2 ∧ PySem.W.kitOne K (.ref C) (.ref C2) = some b) ∨ (∃ T, y = .ty T ∧ PySem.W.kitOne K (.ref C) (.type T) = some b) ∨ (∃ (tp : Addr) (cs : List Addr), y = .ref tp ∧ SqT K H tp (cs.map V.ref) ∧ PySem.W.kitAny K (.ref C) (cs.map Value.ref) = some b)) ∧ Q (.bl b) H
theorem call_isix : CallR X (.builtin "isinstance") (rIsiX X.K) := by
  intro pins s σ H xs us Q I r h
  obtain ⟨ea, C, y, b, rfl, he, hL, hy, q⟩ := h
  obtain ⟨u, v, rfl, rx, ry⟩ := vals2 r
  cases (show u = Value.ref ea from rx)
  have hx : ExcAt ea C s.heap := (show ObjOk X.prog X.w H s.heap ea (.ext (ExcAt ea C)) from I.hok ea _ he).1
  have fin : ∀ tk, ∃ w H', Inv X pins σ H' { s with toks := tk } ∧ RelV w (Value.bool b) ∧ Q w H' := fun tk => ⟨.bl b, H, I.tok tk, rfl, q⟩
  rcases hy with ⟨C2, rfl, e⟩ | ⟨T, rfl, e⟩ | ⟨tp, cs, rfl, hs, e⟩
  · cases (show v = Value.ref C2 from ry)
    exact PySem.W.kia_one (kitx_exc hL) I.kIn hx e (fun z => nomatch z) fin
  · cases (show v = Value.type T from ry)
    exact PySem.W.kia_one (kitx_exc hL) I.kIn hx e (fun z => nomatch z) fin
  · cases (show v = Value.ref tp from ry)
    obtain ⟨its, hv, ⟨o, e1, hc, n, hd⟩, _⟩ := I.tuple hs
    cases vals_refs cs hv
    obtain ⟨oc, od, odt, osl⟩ := o
    dsimp only at hc hd
    subst hc hd
    exact PySem.W.kia_tup (kitx_exc hL) I.kIn hx e1 e (fun z => nomatch z) fin
theorem call_isixK {K : PySem.W.Frag} (h : X.K = K) : CallR X (.builtin "isinstance") (rIsiX K) := h ▸ call_isix
end
/-- an exception that landed is tracked -/
theorem un_more {fs : List Addr} {H1 H2 : Hp} {h1 h2 : Heap} {a : Addr} {o : HO} (u : Un fs [] H1 H2 h1 h2) (hn : h1.get? a = none) (h0 : H2 a = none) : Un fs [] H1 (upd H2 a o) h1 h2 := by
  have ne : ∀ b ob, h1.get? b = some ob → b ≠ a := fun b ob e z => by rw [z, hn] at e; cases e
  have nt : ∀ b x, H2 b = some x → b ≠ a := fun b x e z => by rw [z, h0] at e; cases e
  refine ⟨u.keep, u.slot, fun b ob e n hx => ?_, u.there, fun b xs e => ?_, fun b ob v e => ?_, fun b ps e => ?_⟩
  · rw [upd_ne (ne b ob e)]; exact u.free b ob e n hx
  · have := u.tups b xs e; rw [upd_ne (nt b _ this)]; exact this
  · have := u.frzs b ob v e; rw [upd_ne (nt b _ this)]; exact this
  · obtain ⟨m, z⟩ := u.tbls b ps e
    exact ⟨m, by rw [upd_ne (nt b _ z)]; exact z⟩
theorem hok_more {P : Program} {w : World} {H : Hp} {h : Heap} {a C : Addr} (k : HOk P w H h) (h0 : H a = none) (x : ExcAt a C h) : HOk P w (upd H a (.ext (ExcAt a C))) h := fun b u e => by
  by_cases hb : b = a
  · subst hb
    rw [upd_same] at e
    cases e
    refine ⟨x, ⟨_, x.choose_spec.1⟩, fun h1 h2 y z => ?_⟩
    obtain ⟨o, e1, e2⟩ := y
    exact ⟨o, z o e1, e2⟩
  · rw [upd_ne hb] at e
    exact (k b u e).stay (fun _ _ _ q => q) (fun c q => by rw [upd_ne (ne_of_none q h0)]; exact q) fun c xs q => by rw [upd_ne (ne_of_none q h0)]; exact q
theorem same_upd {H : Hp} {a : Addr} {o : HO} (h : H a = none) : Same H (upd H a o) := fun b u e => by rw [upd_ne (fun z => by rw [z, h] at e; cases e)]; exact e
theorem Fly.out {P : Program} {w : World} {outer : List Env} {H H' : Hp} {h0 h : Heap} {Cv : Value} {ea t : Addr} {B : Heap} (x : Fly P w outer H h0 Cv H' ea t B h) : h0.get? ea = none := by
  cases q : h0.get? ea with
  | none => rfl
  | some o =>
    exfalso
    by_cases hb : ea ∈ frs outer
    · obtain ⟨o', z, d⟩ := (x.fl.2.2.1.mem hb).2
      obtain ⟨oe, vs, he, _, hd, _⟩ := x.fl.first
      rw [he] at z
      cases z
      exact d vs hd
    · obtain ⟨ob, z⟩ := x.kep ea o q hb
      rw [x.fl.2.1] at z
      cases z
/-- a local name goes -/
theorem goes_ok {X : Cx} {pins : List (Addr × Obj)} {σ : St} {H : Hp} {s : Shared} {M : Model} {A : Around} {E : Value → Shared → Prop} {i : Nat} {x : Str} {pos : Pos} {Q : Unit → Shared → Prop} (I : Inv X pins σ H s) (hN : X.N.Nodup) (hi : X.N[i]? = some x) (hk : X.env.scope.names.lookup x = some .local)
    (h : ∀ s', Inv X pins (σ.set i none) H s' → Q () s') : wpAny M A (do bindName X.env x .none; unbindBehindTheSuite X.env x pos) Q E s := by
  obtain ⟨m, hn, hl⟩ := id I.loc
  have hcls : (X.env.scope.kind == .class || (X.env.scope.kind == .module && X.env.locals != X.env.globals)) = false := by rw [I.ok.kind]; rfl
  have cne := I.cne
  have hiσ : i < σ.length := by rw [I.len]; exact (List.getElem?_eq_some_iff.mp hi).1
  refine wpAny_nameGoes_keeps hk hn hcls fun h' v hn' hs => ?_
  obtain ⟨oL, _, _, hoL, _⟩ := id hn
  have hok' : HOk X.prog X.w H h' := fun b ob e => by
    refine (I.hok b ob e).stay (fun c w' hc q => (hs.2 c ?_).trans q) (fun _ q => q) fun _ _ q => q
    rintro rfl
    rcases hc with z | hc
    · rw [← z, I.free] at e; cases e
    · rw [I.free] at hc; cases hc
  refine h _ ⟨I.ok, I.os, I.bare, ⟨fun b o e n hb hx => ?_, fun b o e n hb hx => ?_, I.base.free, fun b o e hx => ?_, I.base.tups, I.base.frzs, I.base.tbls⟩, ⟨_, hn', fun j y v' e1 e2 e3 => ?_⟩, fun y c e => ?_, I.free, I.freeC, fun p hp => ?_, hok', by simpa using I.len⟩
  · exact (hs.2 b (Nat.ne_of_lt (Nat.lt_of_lt_of_le (Heap.lt_size e) I.ok.above))).trans (I.base.keep b o e n hb hx)
  · obtain ⟨sl, e1⟩ := I.base.slot b o e n hb hx
    exact ⟨sl, (hs.2 b (Nat.ne_of_lt (Nat.lt_of_lt_of_le (Heap.lt_size e) I.ok.above))).trans e1⟩
  · obtain ⟨o', e1⟩ := I.base.there b o e hx
    exact ⟨o', (hs.2 b (Nat.ne_of_lt (Nat.lt_of_lt_of_le (Heap.lt_size e) I.ok.above))).trans e1⟩
  · by_cases hj : j = i
    · subst hj
      rw [List.getElem?_set_self hiσ] at e2
      cases e2
    · rw [List.getElem?_set_ne (Ne.symm hj)] at e2
      obtain ⟨u', r', q⟩ := hl j y v' e1 e2 e3
      refine ⟨u', r', ?_⟩
      rcases q with ⟨k, e⟩ | ⟨k, c, e, z⟩
      · refine .inl ⟨k, ?_⟩
        have : y ≠ x := fun e => hj (nodup_ix hN e1 (e ▸ hi))
        simp [this, e]
      · exact .inr ⟨k, c, e, z.sameBut hs (cne y c e)⟩
  · obtain ⟨w', z⟩ := I.cell y c e
    exact ⟨w', z.sameBut hs (cne y c e)⟩
  · obtain ⟨e, n, ne, nf, d⟩ := I.pin p hp
    exact ⟨(hs.2 p.1 ne).trans e, n, ne, nf, d⟩
/-- f(..), its exception taken under a name -/
@[reducible] def Ends.less (D : Ends) (j : Nat) : Ends := { nx := fun σ H => D.nx (σ.set j none) H, rt := D.rt, bk := fun σ H => D.bk (σ.set j none) H, ct := fun σ H => D.ct (σ.set j none) H }
def tTryXAs (sp : Sp) (ta : TA) (mt : Value → Prop) (j : Nat) (ts : TS) : TS := fun D σ H => ta σ H fun vs H1 => sp (vs ++ []) H1 (fun _ H2 => D.nx σ H2) fun Cv _ H2 => mt Cv ∧ ∃ C, Cv = .ref C ∧ ∀ ea H3, Same H2 H3 → H3 ea = some (.ext (ExcAt ea C)) → ts (D.less j) (σ.set j (some (.ref ea))) H3
section
variable {X : Cx} {k : Nat} {ps : List Str} {sp : Sp} {x g cx n : Str} {e : Expr} {es : List Expr} {ta : TA} {C2 : Addr} {b0 : Stmt} {suite : List Stmt} {ts : TS} {p1 p2 p3 p4 p5 p6 pos : Pos} {j : Nat}
theorem taken_as {pins : List (Addr × Obj)} {σ : St} {H1 : Hp} {s1 s' : Shared} {ev : Value} {D : Ends} {Q : Flow → Shared → Prop} {E' : Value → Shared → Prop} (I1 : Inv X pins σ H1 s1) (hst : X.stack = X.env :: X.outer ∧ X.env.frame = some X.env.locals)
    (hN : X.N.Nodup) (hi : X.N[j]? = some n) (hk : X.env.scope.names.lookup n = some .local)
    (T : Exc X.K X.mg cx C2) (hgc : Gl X cx) (hs : ∀ ea, QSs (X.suite ea) (b0 :: suite) ts) (hx : CXe X.prog X.w X.stack H1 s1 (fun Cv _ H2 => PySem.W.exmOne X.K Cv (.ref C2) = some true ∧ ∃ C, Cv = .ref C ∧ ∀ ea H3, Same H2 H3 → H3 ea = some (.ext (ExcAt ea C)) → ts (D.less j) (σ.set j (some (.ref ea))) H3) ev s')
    (hQ : ∀ f s2, SP X pins D f s2 → Q f s2) (hdb : (cx == ("__debug__" : Str)) = false) :
    wpAny (model X.prog X.w) X.A (noteFrame ev X.env) (fun _ s2 => wpAny (model X.prog X.w) X.A (setFlight ev none) (fun _ s3 => wpAny (model X.prog X.w) X.A (handleBy ev X.env (.ExceptHandler (some (.Name cx p5)) (some n) (b0 :: suite) p6 :: [])) Q E' s3) E' s2) E' s' := by
  obtain ⟨ea, t, Cv, H2, B, rfl, F, hb, ho, hm, C, rfl, q⟩ := hx
  have F' := F.fl
  rw [hst.1] at F'
  refine wpAny_looks_onW (by rw [I1.ok.frames, hst.1]) hst.2 F' fun h4 held4 sm4 => ?_
  refine wpAny_landsW held4 fun h5 fl5 sm5 => ?_
  obtain ⟨un5, hok5⟩ := F.on fl5.1 (sm4.trans sm5)
  have I5 : Inv X pins σ H2 { s' with heap := h5 } := I1.call' (s' := { s' with heap := h5 }) ho un5 hok5 hb (fun b z => by simp at z)
  refine wpAny_handleBy_cons (codeAny_handlers_test ?_) (by intro z; cases z)
  refine ld_glob (X := X.suite ea) I5.suite hgc T.nm ?_ hdb
  obtain ⟨ob, hob, hobc⟩ := fl5.there
  have LT : PySem.W.Looks (model X.prog X.w) h5 (typeOf (.ref ea)) (.ref C) := by
    rw [← hobc]
    exact (PySem.W.Looks.ld hob).andThen .now
  refine (PySem.W.exm_one I5.kIn LT hm) _ _ _ _ (fun _ _ z => z) ?_
  show codeAny _ _ _ _ _
  refine codeAny_handlers_suite_as ?_
  refine lands_againW fl5 fun h6 fl6 sm6 => ?_
  have F5 : Fly X.prog X.w X.stack H1 s1.heap (.ref C) H2 ea t B h5 := ⟨hst.1 ▸ fl5, un5, hok5, F.trk, F.kep⟩
  obtain ⟨un6, hok6⟩ := F5.on fl6.1 sm6
  obtain ⟨oe, ws, hoe, hoec, hoed, _⟩ := fl6.first
  have hxe : ExcAt ea C h6 := ⟨oe, hoe, hoec, ws, hoed⟩
  have I6 : Inv X pins σ (upd H2 ea (.ext (ExcAt ea C))) { s' with heap := h6 } := I1.call' (s' := { s' with heap := h6 }) ho (un_more un6 F.out F.free) (hok_more hok6 F.free hxe) hb (fun b z => by simp at z)
  refine store_ok (X := X.suite ea) I6.suite hN hi (.inl hk) (v := .ref ea) rfl (fun s7 I7 => ?_) (.inr hk)
  refine wpAny_mono ((hs ea).p pins _ _ _ (D.less j) I7 (q ea _ (same_upd F.free) upd_same)) (fun f s8 z => ?_) fun _ _ z => z.elim
  have z := z.unsuite I1.ok
  show wpAny _ _ _ (fun _ s3 => Q f s3) E' s8
  cases f with
  | next => obtain ⟨σ', H', I, q⟩ := z; exact goes_ok I hN hi hk fun s9 I9 => hQ _ _ ⟨_, _, I9, q⟩
  | brk => obtain ⟨σ', H', I, q⟩ := z; exact goes_ok I hN hi hk fun s9 I9 => hQ _ _ ⟨_, _, I9, q⟩
  | cont => obtain ⟨σ', H', I, q⟩ := z; exact goes_ok I hN hi hk fun s9 I9 => hQ _ _ ⟨_, _, I9, q⟩
  | ret u => obtain ⟨v, σ', H', I, r, q⟩ := z; exact goes_ok I hN hi hk fun s9 I9 => hQ _ _ ⟨_, _, _, I9, r, q⟩
theorem qs_tryXAs (hst : X.stack = X.env :: X.outer ∧ X.env.frame = some X.env.locals) (C : Cal X.prog X.w X.K X.mg X.base (CXe X.prog X.w) k g ps sp) (hr : Room k X.A) (ha : ∀ pins xe, QA (X.within pins xe) (e :: es) ta) (hg : Gl X g) (hdg : (g == ("__debug__" : Str)) = false)
    (hN : X.N.Nodup) (hi : X.N[j]? = some n) (hk' : X.env.scope.names.lookup n = some .local) (T : Exc X.K X.mg cx C2) (hgc : Gl X cx) (hdc : (cx == ("__debug__" : Str)) = false) (hs : ∀ ea, QSs (X.suite ea) (b0 :: suite) ts)
    (he : starEach (e :: es) X.env = (false, eval e X.env) :: starEach es X.env := by rfl) (hpl : (backTo p3 (starEach es X.env)).any (·.1) = false := by rfl)
    (hsw : swapsWith (.Call (.Name g p2) (e :: es) [] p3) none p4.line X.env = pure false := by rfl) :
    QS X (.Try [.Expr (.Call (.Name g p2) (e :: es) [] p3) p4] [.ExceptHandler (some (.Name cx p5)) (some n) (b0 :: suite) p6] [] [] pos) (tTryXAs sp ta (fun Cv => PySem.W.exmOne X.K Cv (.ref C2) = some true) j ts) := by
  constructor
  intro pins s σ H D I h
  obtain ⟨f, fd, F, hm, hk, hb⟩ := C.ex
  refine wpAny_Try_except ?_
  generalize hxe : (fun (e : Value) (s1 : Shared) => wpAny (model X.prog X.w) X.A (noteFrame e X.env) (fun _ s2 => wpAny (model X.prog X.w) X.A (setFlight e none) (fun _ s3 => wpAny (model X.prog X.w) X.A (handleBy e X.env [.ExceptHandler (some (.Name cx p5)) (some n) (b0 :: suite) p6]) (SP X pins D) X.xe s3) X.xe s2) X.xe s1) = xe
  have call : PE (X.within pins xe) (.Call (.Name g p2) (e :: es) [] p3) (fun σ' H' Q => σ' = σ ∧ ta σ' H' fun vs H1 => sp (vs ++ []) H1 Q fun Cv _ H2 => PySem.W.exmOne X.K Cv (.ref C2) = some true ∧ ∃ C, Cv = .ref C ∧ ∀ ea H3, Same H2 H3 → H3 ea = some (.ext (ExcAt ea C)) → ts (D.less j) (σ.set j (some (.ref ea))) H3) := by
    intro pins' s' σ' H' Q' I' h'
    obtain ⟨rfl, h'⟩ := h'
    refine wpAny_Call_Name_kw (ld_glob I' hg hm ?_ hdg)
    refine PySem.W.callWith_K (h₀ := X.base) I'.ok.mod.kin hk (thn ((ha pins xe).p p3 pins' s' σ' H' _ I' h') fun us s1 ⟨vs, H1, I1, r, q⟩ => ⟨I1.kIn, ?_⟩) he hpl
    have r2 : Vals (vs ++ []) (us ++ []) := r.append .nil
    have hl : (us ++ []).length = ps.length := by rw [← r2.length]; exact F.len _ _ _ _ q
    refine wpAny_call (codeAny_mono (F.run X.A X.stack s1 H1 ⟨us, []⟩ (us ++ []) (vs ++ []) Q' _ hr I1.env0 (hb s1 us I1.kIn hl) r2 q) fun rr s2 hq => ?_)
    cases rr with
    | ok fl =>
      cases fl with
      | ret u => exact I1.after hq
      | next => exact False.elim hq
      | brk => exact False.elim hq
      | cont => exact False.elim hq
    | error ev =>
      show xe ev s2
      rw [← hxe]
      exact taken_as (I1.out I.ok) hst hN hi hk' T hgc hs hq (fun _ _ z => z) hdc
  have body := pss_one (ps_expr (X := X.within pins xe) (pos := p4) call hsw)
  refine wpAny_mono (body [] s σ H { D with nx := D.nx } I.within ⟨rfl, h⟩) (fun fl s2 z => ?_) fun ev s2 z => ?_
  · have z' := SP.out I.ok z
    cases fl with
    | next => exact wpAny_execs_nil z'
    | brk => exact z'
    | cont => exact z'
    | ret u => exact z'
  · exact z
end
end L2
namespace L2
open PySem PySem.Spec PyProof.Rows
section
variable {X : Cx}
/-- a list that may be handed in, with another one behind it -/
def rCatQ (K : PySem.W.Frag) : R2 := fun x y H Q => ∃ l b xs zs, x = .ref l ∧ y = .ref b ∧ SqL K H l xs ∧ SqL K H b zs ∧ xs.length + zs.length ≤ sizeLine ∧ ∀ p H2, Same H H2 → H2 p = some (.lst (xs ++ zs)) → Q (.ref p) H2
theorem op_catQ : OpR X (binaryOp .Add) (rCatQ X.K) := by
  intro pins s σ H x y v u Q I rx ry h
  obtain ⟨l, b, xs, zs, rfl, rfl, hH, hB, hz, q⟩ := h
  cases rx
  cases ry
  obtain ⟨its, r, ⟨⟨cls, dd, data, sl⟩, n, e, hc, _, hd⟩, z1⟩ := I.list hH
  obtain ⟨its2, r2, ⟨⟨cls2, dd2, data2, sl2⟩, n2, e2, hc2, _, hd2⟩, z2⟩ := I.list hB
  dsimp only at hc hd hc2 hd2
  subst hc hd hc2 hd2
  have l1 := r.length
  have l2 := r2.length
  have ea : its.toArray ++ its2.toArray = (its ++ its2).toArray := by simp
  refine concat_meets ⟨_, e, rfl⟩ ⟨_, e2, rfl⟩ noFill_list_add seq_list_add PySem.F.slot_list_add PySem.F.entry_list_add (PySem.F.args_list_add_2 _ _) (list_addW l b its.toArray its2.toArray n n2 dd dd2 sl sl2 (by simp only [List.size_toArray]; omega)) ⟨e, e2, ?_⟩
  rw [ea]
  exact ⟨.ref _, _, I.lnew (t' := s.toks) (r.append r2) (by rw [List.length_append]; omega), rfl, q _ _ (same_upd I.fresh) upd_same⟩
end
end L2

set_option Elab.async false
set_option linter.all false
set_option maxRecDepth 100000
set_option maxHeartbeats 4000000
namespace L2
open PySem PySem.Spec PyProof.Rows
open Builtin.Str
/-! ### texts -/
section
variable {X : Cx}
abbrev RM := V → List V → Hp → VK → Prop
def rStarts : RM := fun x xs H Q => ∃ y z, x = .str y ∧ xs = [.str z] ∧ Q (.bl (Txt.startswith y z)) H
theorem mt_str_startswith : MtR X "str.startswith" rStarts := by
  intro pins s σ H x xs v us Q I rx rv h
  obtain ⟨y, z, rfl, rfl, q⟩ := h
  obtain ⟨t, rfl⟩ := rx
  obtain ⟨u, rfl, t2, rfl⟩ := vals1 rv
  exact SC.startswith ⟨.bl _, H, I, rfl, q⟩
def rZfill : RM := fun x xs H Q => ∃ y i, x = .str y ∧ xs = [.int i] ∧ PadOk i = true ∧ Q (.str (Txt.zfill y i)) H
theorem mt_str_zfill : MtR X "str.zfill" rZfill := by
  intro pins s σ H x xs v us Q I rx rv h
  obtain ⟨y, i, rfl, rfl, hp, q⟩ := h
  obtain ⟨t, rfl⟩ := rx
  obtain ⟨u, rfl, t2, rfl⟩ := vals1 rv
  exact SC.zfill hp fun t' k => ⟨.str _, H, I.tok k, ⟨t', rfl⟩, q⟩
def rFind : RM := fun x xs H Q => ∃ y z, x = .str y ∧ xs = [.str z] ∧ Q (.int (Txt.find y z)) H
theorem mt_str_find : MtR X "str.find" rFind := by
  intro pins s σ H x xs v us Q I rx rv h
  obtain ⟨y, z, rfl, rfl, q⟩ := h
  obtain ⟨t, rfl⟩ := rx
  obtain ⟨u, rfl, t2, rfl⟩ := vals1 rv
  exact SC.find ⟨.int _, H, I.tok _, ⟨_, rfl⟩, q⟩
def rIndexS : RM := fun x xs H Q => ∃ y z i r, x = .str y ∧ xs = [.str z] ∧ occurrences y z 0 y.length 1 = i :: r ∧ Q (.int (i : Nat)) H
theorem mt_str_index : MtR X "str.index" rIndexS := by
  intro pins s σ H x xs v us Q I rx rv h
  obtain ⟨y, z, i, r, rfl, rfl, ho, q⟩ := h
  obtain ⟨t, rfl⟩ := rx
  obtain ⟨u, rfl, t2, rfl⟩ := vals1 rv
  exact SC.index ho ⟨.int _, H, I.tok _, ⟨_, rfl⟩, q⟩
theorem vals_strs : ∀ (ys : List Str) {us : List Value}, Vals (ys.map V.str) us → ∃ l : List (Str × Tok), strValues l = us ∧ l.map (·.1) = ys
  | [], _, r => by cases r; exact ⟨[], rfl, rfl⟩
  | y :: ys, _, r => by
    cases r with
    | cons r1 r2 =>
      obtain ⟨l, rfl, h⟩ := vals_strs ys r2
      obtain ⟨t, rfl⟩ := r1
      exact ⟨(y, t) :: l, rfl, by simp [h]⟩
theorem strs_vals : ∀ (l : List (Str × Tok)), Vals ((l.map (·.1)).map V.str) (strValues l)
  | [] => .nil
  | (y, t) :: l => .cons ⟨t, rfl⟩ (strs_vals l)
def rJoin (K : PySem.W.Frag) : RM := fun x xs H Q => ∃ y a ys, x = .str y ∧ xs = [.ref a] ∧ SqL K H a (ys.map V.str) ∧ (ys.map (·.length)).sum + ys.length * y.length ≤ 16777216 ∧ Q (.str (Txt.join y ys)) H
theorem mt_str_join : MtR X "str.join" (rJoin X.K) := by
  intro pins s σ H x xs v us Q I rx rv h
  obtain ⟨y, a, ys, rfl, rfl, hs, hz, q⟩ := h
  obtain ⟨t, rfl⟩ := rx
  obtain ⟨u, rfl, ru⟩ := vals1 rv
  cases (show u = Value.ref a from ru)
  obtain ⟨its, hv, pl, _⟩ := I.list hs
  obtain ⟨l, rfl, hl⟩ := vals_strs ys hv
  exact SC.join pl.isList hl (joinOk_of hz) fun t' k => ⟨.str _, H, I.tok k, ⟨t', rfl⟩, q⟩
def rSplit : RM := fun x xs H Q => ∃ y z, x = .str y ∧ xs = [.str z] ∧ (z.length == 0) = false ∧ y.length + 2 ≤ sizeLine ∧ ∀ p H2, Same H H2 → H2 p = some (.lst ((Txt.split y z).map V.str)) → Q (.ref p) H2
theorem mt_str_split : MtR X "str.split" rSplit := by
  intro pins s σ H x xs v us Q I rx rv h
  obtain ⟨y, z, rfl, rfl, hz, hy, q⟩ := h
  obtain ⟨t, rfl⟩ := rx
  obtain ⟨u, rfl, t2, rfl⟩ := vals1 rv
  have hsz : y.length ≤ sizeLine := by omega
  have hsz2 : (partsBetween y (occurrences y z 0 y.length (y.length + 1)) z.length).length ≤ sizeLine := by
    rw [length_partsBetween]
    have := StrLaws.occ_length_le_len y z 0 y.length (y.length + 1)
    omega
  have fin : ∀ (l : List (Str × Tok)) (k : Nat), l.map (·.1) = Txt.split y z → l.length ≤ sizeLine → EP X pins σ Q (.ref s.heap.objs.size) { s with heap := s.heap.push { cls := .type "list", data := .seq (strValues l).toArray }, toks := k } := fun l k hl hz =>
    ⟨.ref _, _, I.lnew (t' := k) (ys := (l.map (·.1)).map V.str) (strs_vals l) (by simpa using hz), rfl, q _ _ (same_upd I.fresh) (by rw [upd_same, hl])⟩
  cases h1 : (decide (y.length < z.length) || decide (strKind y < strKind z))
  · cases hf : (occurrences y z 0 y.length (y.length + 1)).isEmpty
    · refine call_meets F.slot_str_split (typeIs_str _ _ _) F.entry_str_split (F.args_str_split_2 _ _) (meets_str_split_sep y z t t2 h1 hz hf hsz hsz2) ?_
      show wants _ _ _ { s with toks := _, heap := s.heap.push { cls := .type "list", data := .seq (strsFrom s.toks (partsBetween y (occurrences y z 0 y.length (y.length + 1)) z.length)).toArray } }
      rw [strsFrom_eq]
      refine fin (numbered s.toks _) _ ((numbered_texts _ _).trans ((if_neg (ne_true_of_eq_false h1)).trans (if_neg (ne_true_of_eq_false hf))).symm) ?_
      have e := congrArg List.length (numbered_texts s.toks (partsBetween y (occurrences y z 0 y.length (y.length + 1)) z.length))
      rw [List.length_map] at e
      rw [e]
      exact hsz2
    · exact call_meets F.slot_str_split (typeIs_str _ _ _) F.entry_str_split (F.args_str_split_2 _ _) (meets_str_split_not_found y z t t2 h1 hz hf)
        (fin [(y, t)] s.toks ((if_neg (ne_true_of_eq_false h1)).trans (if_pos hf)).symm (by rw [List.length_singleton]; exact Nat.le_trans (by omega) hy))
  · exact call_meets F.slot_str_split (typeIs_str _ _ _) F.entry_str_split (F.args_str_split_2 _ _) (meets_str_split_cannot_occur y z t t2 h1)
      (fin [(y, t)] s.toks (if_pos h1).symm (by rw [List.length_singleton]; exact Nat.le_trans (by omega) hy))
/-- int(text) -/
def rIntS : List V → Hp → VK → Prop := fun xs H Q => ∃ x n, xs = [.str x] ∧ PySem.intText? x = some n ∧ x.length ≤ 640 ∧ Q (.int n) H
theorem call_intS : CallR X (.type "int") rIntS := by
  intro pins s σ H xs us Q I r h
  obtain ⟨x, n, rfl, hn, hl, q⟩ := h
  obtain ⟨u, rfl, t, rfl⟩ := vals1 r
  exact PySem.W.KIN.call_text hn hl ⟨.int n, H, I.tok _, ⟨_, rfl⟩, q⟩
/-- all(list of truths) -/
def rAll (K : PySem.W.Frag) : List V → Hp → VK → Prop := fun xs H Q => ∃ (a : Addr) (bs : List Bool), xs = [.ref a] ∧ SqL K H a (bs.map V.bl) ∧ Q (.bl (bs.all id)) H
theorem vals_bls : ∀ (bs : List Bool) {us : List Value}, Vals (bs.map V.bl) us → us = bs.map Value.bool
  | [], _, r => by cases r; rfl
  | b :: bs, _, r => by
    cases r with
    | cons r1 r2 =>
      rw [vals_bls bs r2]
      cases (show _ = Value.bool b from r1)
      rfl
theorem all_range (bs : List Bool) : (List.range bs.length).all (fun i => bs[i]?.getD true) = bs.all id := by
  apply Bool.eq_iff_iff.mpr
  simp only [List.all_eq_true, List.mem_range, id]
  constructor
  · intro h b hb
    obtain ⟨i, hi, e⟩ := List.mem_iff_getElem.mp hb
    have := h i hi
    rw [List.getElem?_eq_getElem hi] at this
    simpa [e] using this
  · intro h i hi
    rw [List.getElem?_eq_getElem hi]
    exact h _ (List.getElem_mem hi)
theorem call_allL (hc : X.calm = true) : CallR X (.builtin "all") (rAll X.K) := by
  intro pins s σ H xs us Q I r h
  obtain ⟨a, bs, rfl, hs, q⟩ := h
  obtain ⟨u, rfl, ru⟩ := vals1 r
  cases (show u = Value.ref a from ru)
  obtain ⟨its, hv, pl, _⟩ := I.list hs
  cases vals_bls bs hv
  have hl := pl.isList
  refine call_all_walk (wpAny_pyIter_list hl ?_)
  have hne : a ≠ s.heap.objs.size := by
    obtain ⟨o, n, e, _⟩ := pl
    exact Nat.ne_of_lt (Heap.lt_size e)
  refine ⟨s.heap.objs.size, _, _, _, _, _, fun i => bs[i]?.getD true, rfl, Walks.list (A := X.A.in1) (I.ok.hd hc) s.heap.objs.size a hne (bs.map Value.bool).toArray, ⟨⟨_, Heap.get?_push_size _ rfl, rfl, rfl⟩, (pl.keeps fun b o e => Heap.get?_push_of_some _ e).isList⟩, ?_, fun h' tk hk => ?_⟩
  · intro i v s' Q' E' hP hQ
    have hP' : (bs.map Value.bool)[i]? = some v := by simpa using hP
    rw [List.getElem?_map] at hP'
    obtain ⟨b, hb, rfl⟩ := Option.map_eq_some_iff.mp hP'
    have hQ' : Q' (bs[i]?.getD true) s' := hQ
    rw [hb] at hQ'
    exact wpAny_pure hQ'
  · have e : (List.range (bs.map Value.bool).toArray.size).all (fun i => bs[i]?.getD true) = bs.all id := by
      rw [List.size_toArray, List.length_map]
      exact all_range bs
    rw [e]
    refine ⟨.bl _, H, I.kept (t' := tk) fun b o eb => hk b o ?_ (Heap.get?_push_of_some _ eb), rfl, q⟩
    intro z
    rw [List.mem_singleton.mp z] at eb
    exact absurd (Heap.lt_size eb) (Nat.lt_irrefl _)
/-- text[lo:hi] -/
def rSlS : V → Option Int → Option Int → Hp → VK → Prop := fun x lo hi H Q => ∃ y, x = .str y ∧ y.length ≤ sizeLine ∧ Q (.str (Txt.slice y lo hi)) H
theorem sl_str : SlR X rSlS := by
  intro pins s σ H x v vl vu lo hi sl Q I rx hs pl pu h
  obtain ⟨y, rfl, hz, q⟩ := h
  obtain ⟨t, rfl⟩ := rx
  refine ⟨"str", _, F.slot_str_getitem.lookup, typeIs_str _ _ _, ?_⟩
  obtain ⟨o, ho, hc, hd⟩ := hs
  have fin : ∀ (l u : Option (Int × Tok)), l.map (·.1) = lo → u.map (·.1) = hi → vl = partValue l → vu = partValue u → wpAny (model X.prog X.w) X.A (getItem (.str y t) (.ref sl)) (EP X pins σ Q) X.xe s := fun l u e1 e2 e3 e4 => by
    subst e1 e2 e3 e4
    exact wpAny_getItem_str_slice (l := l) (u := u) (st := none) ⟨o, ho, hc, hd⟩ rfl (post_val_or_str ⟨Nat.le_trans (Txt.slice_le y _ _) hz, fun t' k => ⟨.str _, H, I.tok k, ⟨t', rfl⟩, q⟩⟩)
  cases pl with
  | none =>
    cases pu with
    | none => exact fin none none rfl rfl rfl rfl
    | int j u => exact fin none (some (j, u)) rfl rfl rfl rfl
  | int i w =>
    cases pu with
    | none => exact fin (some (i, w)) none rfl rfl rfl rfl
    | int j u => exact fin (some (i, w)) (some (j, u)) rfl rfl rfl rfl
/-! a text, sign by sign -/
def Its (x : Str) : It := ⟨fun i _ => i < x.cps.size, fun i H v H' => H' = H ∧ ∃ c, x.cps[i]? = some c ∧ v = .str ⟨#[c]⟩, fun i _ => x.cps.size ≤ i⟩
theorem turn_str {P : Program} {w : World} {K : PySem.W.Frag} {tg : Expr} (x : Str) (t : Tok) (it : Addr) {ty : String} (hty : ["enumerate", "zip", "dict_itemiterator", "dict_reverseitemiterator", "odict_iterator", "itertools.zip_longest", "itertools.pairwise"].contains ty = false)
    (W : ∀ A' : Around, A'.handled = none → Walks P w A' it [it] [it] x.cps.size (SignAt x) (fun i h => h.IsStrIter it ty x t i)) (hs : ∀ (A : Around) (i : Nat) (s : Shared) (Q : Value → Shared → Prop) (E : Value → Shared → Prop), s.heap.IsStrIter it ty x t i → Q (.ref it) s → wpAny (model P w) A (pyIter (.ref it)) Q E s) :
    Turn P w K tg (Its x) [it] it (fun i h => i ≤ x.cps.size ∧ h.IsStrIter it ty x t i) where
  mem := by simp
  obj := fun i h st b hb => by
    have e : b = it := by simpa using hb
    subst e
    obtain ⟨_, o, e, c, d⟩ := st
    exact ⟨o, e, fun v z => by rw [d] at z; cases z⟩
  keep := fun i h h' st k => ⟨st.1, (W { } rfl).frame i h h' st.2 k⟩
  item := by
    intro X hP hw hK hc i pins s σ H E I hf st hg
    subst hP hw hK
    obtain ⟨f0, f1, f2, f3, f4, f5⟩ := hf it (by simp)
    refine (W X.A (I.ok.hd hc)).item i s _ _ hg st.2 fun v h' tk hv st' kk => ?_
    obtain ⟨c, u, hc', rfl⟩ := hv
    have I1 : Inv X pins σ H { s with heap := h', toks := tk } := I.turned (fun b o hb e => kk b o (by simpa using hb) e) f0 f1 f3 f4 f5
    obtain ⟨o, e1, e2, e3⟩ := id st'
    exact ⟨_, rfl, go_of (s := { s with heap := h', toks := tk }) e1 e2 e3 hty ⟨.str ⟨#[c]⟩, H, I1, ⟨u, rfl⟩, ⟨rfl, c, hc', rfl⟩, ⟨hg, st'⟩, fun b hb => (hf b hb).1⟩⟩
  done := by
    intro X hP hw hK hc i pins s σ H E I hf st hg
    subst hP hw hK
    obtain ⟨f0, f1, f2, f3, f4, f5⟩ := hf it (by simp)
    have e : i = x.cps.size := Nat.le_antisymm st.1 hg
    subst e
    exact (W X.A (I.ok.hd hc)).done s _ _ st.2 fun h' tk kk => ⟨rfl, I.turned (fun b o hb e => kk b o (by simpa using hb) e) f0 f1 f3 f4 f5⟩
  self := fun A i s Q E st h => hs A i s Q E st.2 h
def iStr (tl : TE) : TI := fun σ H R => tl σ H fun x H1 => ∃ y, x = .str y ∧ R (Its y) H1
variable {tg : Expr}
theorem qi_str {l : Expr} {tl : TE} (hl : QE X l tl) : QI X tg l (iStr tl) := by
  constructor
  intro pins s σ H R I h
  refine thn (hl.p pins s σ H _ I h) fun v s1 ⟨x, H1, I1, r1, q1⟩ => ?_
  obtain ⟨y, rfl, q⟩ := q1
  obtain ⟨t, rfl⟩ := r1
  have fp : ∀ b ∈ [s1.heap.objs.size], FpOk X pins H1 b := fun b hb => by
    have e : b = s1.heap.objs.size := by simpa using hb
    subst e
    exact I1.fpOk (Nat.le_refl _) (I1.hok.fresh (Nat.le_refl _))
  cases ha : y.cps.all (· < 128)
  · exact wpAny_pyIter_wide ha ⟨s1.heap.objs.size, [s1.heap.objs.size], _, _, H1, rfl, I1.kept (t' := s1.toks) fun b o e => Heap.get?_push_of_some _ e, turn_str y t _ (by decide) (fun A' hA => Walks.strWide hA _ y t) (fun A i s Q E st h => wpAny_pyIter_striter_wide st h), ⟨Nat.zero_le _, _, Heap.get?_push_size _ rfl, rfl, rfl⟩, fp, q⟩
  · exact wpAny_pyIter_ascii ha ⟨s1.heap.objs.size, [s1.heap.objs.size], _, _, H1, rfl, I1.kept (t' := s1.toks) fun b o e => Heap.get?_push_of_some _ e, turn_str y t _ (by decide) (fun A' hA => Walks.strAscii hA _ y t) (fun A i s Q E st h => wpAny_pyIter_striter_ascii st h), ⟨Nat.zero_le _, _, Heap.get?_push_size _ rfl, rfl, rfl⟩, fp, q⟩
/-- f'{a}..{b}' of texts -/
def tF3 (m : Str) (ta tb : TE) : TE := fun σ H Q => ta σ H fun x H1 => ∃ y, x = .str y ∧ y.length ≤ 10000 ∧ tb σ H1 fun z H2 => ∃ w, z = .str w ∧ w.length ≤ 10000 ∧ Q (.str (y ++ m ++ w)) H2
theorem qe_fstr3 {a b : Expr} {ta tb : TE} {m : Str} {j} {p1 p2 p3 pos : Pos} (ha : QE X a ta) (hb : QE X b tb) (hm : m.length ≤ 10000 := by decide) : QE X (.JoinedStr [.FormattedValue a (-1) none p1, .Constant (.str m) j p2, .FormattedValue b (-1) none p3] pos) (tF3 m ta tb) := by
  constructor
  intro pins s σ H Q I h
  have z : sizeLine = 16777216 := sizeLine_eq
  refine JoinedStr_many (joinParts_cons (FormattedValue_plain (thn (ha.p pins s σ H _ I h) fun v s1 ⟨x, H1, I1, r1, y, e, hl, q1⟩ => ?_)))
  subst e
  obtain ⟨t, rfl⟩ := r1
  refine formatField_str (fun t' tk => ⟨by rw [Str.empty_append]; omega, ?_⟩) (by omega)
  rw [Str.empty_append]
  have I2 := I1.tok tk
  refine joinParts_cons (thn (pe_str pins _ σ H1 (fun v H' => v = .str m ∧ H' = H1) I2 ⟨rfl, rfl⟩) fun v s2 ⟨x, H2, I3, r2, e1, e2⟩ => ?_)
  subst e1 e2
  obtain ⟨t2, rfl⟩ := r2
  refine ⟨by rw [Str.length_append]; omega, ?_⟩
  refine joinParts_cons (FormattedValue_plain (thn (hb.p pins s2 σ H2 _ I3 q1) fun v s3 ⟨x, H3, I4, r3, w, e, hl2, q2⟩ => ?_))
  subst e
  obtain ⟨t3, rfl⟩ := r3
  refine formatField_str (fun t' tk => ⟨by rw [Str.length_append, Str.length_append]; omega, ?_⟩) (by omega)
  exact joinParts_nil ⟨.str _, H3, (I4.tok tk).tok _, ⟨_, rfl⟩, q2⟩ (by rw [Str.length_append, Str.length_append]; omega)
theorem qe_lst {es : List Expr} {aa : TA} {pos : Pos} (h : QA X es aa) : QE X (.List es pos) (tLst aa) := ⟨pe_lst h.p⟩
theorem mt_list_append : MtR X "list.append" rAppend := mt_append
theorem mt_list_reverse : MtR X "list.reverse" rReverse := mt_reverse
end
end L2

set_option Elab.async false
set_option linter.all false
set_option maxRecDepth 100000
set_option maxHeartbeats 4000000
namespace Tx
open PySem PySem.NumText PyProof.Rows L2
/-! ### numbers in figures, texts as rows of codes -/
abbrev cs (x : Str) : List Nat := x.cps.toList
abbrev st (l : List Nat) : Str := ⟨l.toArray⟩
theorem st_cs (x : Str) : st (cs x) = x := by cases x; simp [st, cs]
theorem cs_st (l : List Nat) : cs (st l) = l := by simp [st, cs]
theorem eq_cs {x y : Str} (h : cs x = cs y) : x = y := by rw [← st_cs x, ← st_cs y, h]
theorem cs_app (x y : Str) : cs (x ++ y) = cs x ++ cs y := PySem.W.KT.app_list x y
theorem len_cs (x : Str) : (cs x).length = x.length := Array.length_toList
def dl (m : Nat) : List Nat := (Nat.toDigits 10 m).map Char.toNat
abbrev tx (n : Int) : Str := Str.ofString (toString n)
theorem dl_small {m : Nat} (h : m < 10) : dl m = [48 + m] := by
  unfold dl
  rw [Nat.toDigits_of_lt_base h]
  show [(Nat.digitChar m).toNat] = _
  have : ∀ d : Nat, d < 10 → (Nat.digitChar d).toNat = 48 + d := by decide
  rw [this m h]
theorem dl_step {m : Nat} (h : 10 ≤ m) : dl m = dl (m / 10) ++ [48 + m % 10] := by
  have hm : m % 10 < 10 := Nat.mod_lt m (by decide)
  have t : Nat.toDigits 10 (m / 10) ++ Nat.toDigits 10 (m % 10) = Nat.toDigits 10 (10 * (m / 10) + m % 10) := Nat.toDigits_append_toDigits (by decide) (by omega) hm
  rw [Nat.div_add_mod] at t
  rw [← dl_small hm]
  unfold dl
  rw [← t, List.map_append]
theorem dl_digits (m : Nat) : AllDigits (dl m) := by
  intro c hc
  obtain ⟨ch, hch, e⟩ := List.mem_map.mp hc
  have r := digit_range (Nat.isDigit_of_mem_toDigits (by decide) (by decide) hch)
  rw [← e]
  exact r
theorem dl_val (m : Nat) : digitsVal (dl m) = m := PySem.W.KIN.val_back m
theorem dl_head (m : Nat) : ∃ c r, dl m = c :: r ∧ (m ≠ 0 → 49 ≤ c) := by
  induction m using Nat.strongRecOn with
  | _ m ih =>
    by_cases h : m < 10
    · exact ⟨48 + m, [], dl_small h, fun h0 => by omega⟩
    · obtain ⟨c, r, e, hc⟩ := ih (m / 10) (by omega)
      exact ⟨c, r ++ [48 + m % 10], by rw [dl_step (by omega), e]; rfl, fun _ => hc (by omega)⟩
theorem dl_ne (m : Nat) : dl m ≠ [] := by
  obtain ⟨c, r, e, _⟩ := dl_head m
  rw [e]; simp
theorem dl_len {m k : Nat} (hk : 0 < k) (h : m < 10 ^ k) : (dl m).length ≤ k := by
  induction k generalizing m with
  | zero => omega
  | succ k ih =>
    by_cases hs : m < 10
    · rw [dl_small hs]; simp
    · by_cases hk0 : k = 0
      · subst hk0
        simp at h
        omega
      · rw [dl_step (by omega), List.length_append, List.length_singleton]
        have := ih (m := m / 10) (by omega) (by rw [Nat.pow_succ] at h; omega)
        omega
theorem cs_num (m : Nat) : cs (tx (m : Int)) = dl m := PySem.W.KIN.signs_num m
theorem cs_neg {m : Nat} (h : m ≠ 0) : cs (tx (-(m : Int))) = 45 :: dl m := by
  obtain ⟨k, rfl⟩ : ∃ k, m = k + 1 := ⟨m - 1, by omega⟩
  show (Str.ofString (toString (Int.negSucc k))).cps.toList = _
  rw [signs_ofString]
  show ("-" ++ Nat.repr (k + 1)).toList.map Char.toNat = _
  rw [String.toList_append, List.map_append, Nat.toList_repr]
  rfl
theorem cs_tx (n : Int) : cs (tx n) = (if n < 0 then 45 :: dl n.natAbs else dl n.natAbs) := by
  by_cases h : n < 0
  · rw [if_pos h]
    have e : n = -((n.natAbs : Nat) : Int) := by omega
    conv => lhs; rw [e]
    exact cs_neg (by omega)
  · rw [if_neg h]
    have e : n = ((n.natAbs : Nat) : Int) := by omega
    conv => lhs; rw [e]
    exact cs_num _
/-! fixed width -/
def fw : Nat → Nat → List Nat
  | 0, _ => []
  | k + 1, m => fw k (m / 10) ++ [48 + m % 10]
theorem fw_len (k m : Nat) : (fw k m).length = k := by
  induction k generalizing m with
  | zero => rfl
  | succ k ih => rw [fw, List.length_append, ih, List.length_singleton]
theorem fw_zero (k : Nat) : fw k 0 = List.replicate k 48 := by
  induction k with
  | zero => rfl
  | succ k ih =>
    rw [fw, Nat.zero_div, ih, Nat.zero_mod]
    exact (List.replicate_succ' (n := k) (a := 48)).symm
theorem fw_pad {k m : Nat} (h : m < 10 ^ k) (hk : 0 < k) : fw k m = List.replicate (k - (dl m).length) 48 ++ dl m := by
  induction k generalizing m with
  | zero => omega
  | succ k ih =>
    rw [fw]
    by_cases hs : m < 10
    · rw [dl_small hs, Nat.div_eq_of_lt hs, fw_zero, Nat.mod_eq_of_lt hs]
      simp
    · have hk0 : 0 < k := by
        rcases Nat.eq_zero_or_pos k with e | e
        · subst e; simp at h; omega
        · exact e
      rw [ih (by rw [Nat.pow_succ] at h; omega) hk0, dl_step (m := m) (by omega), List.length_append, List.length_singleton, List.append_assoc]
      congr 2
      omega
theorem dl_cut {k m : Nat} (h : 10 ^ k ≤ m) : dl m = dl (m / 10 ^ k) ++ fw k (m % 10 ^ k) := by
  induction k generalizing m with
  | zero => simp [fw]
  | succ k ih =>
    have hp : 0 < 10 ^ k := Nat.pow_pos (by decide)
    have e10 : 10 ^ (k + 1) = 10 * 10 ^ k := by rw [Nat.pow_succ, Nat.mul_comm]
    have h10 : 10 ≤ m := Nat.le_trans (by rw [e10]; exact Nat.le_mul_of_pos_right 10 hp) h
    rw [dl_step h10, ih (m := m / 10) (by rw [e10] at h; exact (Nat.le_div_iff_mul_le (by decide)).mpr (by rw [Nat.mul_comm]; exact h)), fw, ← List.append_assoc]
    rw [Nat.div_div_eq_div_mul, ← e10]
    have e1 : m % 10 ^ (k + 1) / 10 = m / 10 % 10 ^ k := by
      rw [e10]
      exact Nat.mod_mul_right_div_self m 10 (10 ^ k)
    have e2 : m % 10 ^ (k + 1) % 10 = m % 10 := by
      rw [e10]
      exact Nat.mod_mul_right_mod m 10 (10 ^ k)
    rw [e1, e2]
end Tx
namespace Tx
open PySem PySem.NumText PyProof.Rows L2
theorem head_cps {x : Str} {c : Nat} {r : List Nat} (h : cs x = c :: r) : x.cps[0]? = some c := by
  rw [← Array.getElem?_toList]
  show (cs x)[0]? = _
  rw [h]; rfl
theorem zfill_num {x : Str} {m : Nat} (hx : cs x = dl m) (h : m < 10 ^ 64) : cs (Txt.zfill x 64) = fw 64 m := by
  have hl := dl_len (by decide) h
  have e := len_cs x
  rw [hx] at e
  rw [fw_pad h (by decide)]
  unfold Txt.zfill
  by_cases hz : (64 : Int) ≤ x.length
  · rw [if_pos hz, hx]
    have : 64 - (dl m).length = 0 := by omega
    rw [this]; rfl
  · rw [if_neg hz]
    obtain ⟨c, r, ec, _⟩ := dl_head m
    have hc := dl_digits m c (by rw [ec]; simp)
    have h0 := head_cps (hx.trans ec)
    have hp : zfilled x ((64 : Int).toNat - x.length) = Builtin.Str.padded x ((64 : Int).toNat - x.length) 0 48 := by
      unfold zfilled
      rw [h0]
      split
      · rename_i z; injection z with z; omega
      · rename_i z; injection z with z; omega
      · rfl
    rw [hp]
    unfold Builtin.Str.padded
    show (Array.replicate _ 48 ++ x.cps ++ Array.replicate 0 48).toList = _
    rw [Array.toList_append, Array.toList_append, Array.toList_replicate, Array.toList_replicate]
    show List.replicate _ 48 ++ cs x ++ [] = _
    rw [hx, List.append_nil, e]
    rfl
theorem cs_join : ∀ ys : List Str, cs (Txt.join (Str.ofString "") ys) = (ys.map cs).flatten := by
  intro ys
  show cs (Builtin.Str.glued (Str.ofString "") ys) = _
  rw [StrLaws.glued_eq_join]
  induction ys with
  | nil => rfl
  | cons a r ih =>
    cases r with
    | nil => show cs a = _; simp
    | cons b r =>
      show cs (a ++ Str.ofString "" ++ Str.join (Str.ofString "") (b :: r)) = _
      rw [cs_app, cs_app, ih]
      have : cs (Str.ofString "") = [] := by decide +kernel
      rw [this]
      simp
theorem starts_minus (x : Str) : Txt.startswith x (Str.ofString "-") = decide ((cs x).head? = some 45) := by
  have e : cs (Str.ofString "-") = [45] := by decide +kernel
  have l : (Str.ofString "-").length = 1 := by decide +kernel
  unfold Txt.startswith
  rw [StrLaws.subAt_eq, l]
  have hx := len_cs x
  show (decide (0 + 1 ≤ x.length) && ((cs x).drop 0).take 1 == cs (Str.ofString "-")) = _
  rw [e]
  cases h : cs x with
  | nil =>
    rw [h] at hx
    have : x.length = 0 := by simpa using hx.symm
    simp [this]
  | cons c r =>
    rw [h] at hx
    have : 0 + 1 ≤ x.length := by simp at hx; omega
    simp [this]
    exact Bool.beq_eq_decide_eq c 45
theorem slice1 {x : Str} (h : 1 ≤ x.length) : cs (Txt.slice x (some 1) none) = (cs x).drop 1 := by
  rw [slice_from_eq (x := x) (i := 1) (b := x.length) (by decide) (by omega) rfl, cs_st]
  refine List.take_of_length_le ?_
  rw [List.length_drop, len_cs]
  show x.length - (1 : Int).toNat ≤ ((x.length : Int) - 1).toNat
  omega
/-! cut at the strokes -/
def splitL : List Nat → List (List Nat)
  | [] => [[]]
  | c :: r => if c = 47 then [] :: splitL r else match splitL r with
    | p :: ps => (c :: p) :: ps
    | [] => [[c]]
def glueL : List (List Nat) → List Nat
  | [] => []
  | [p] => p
  | p :: q :: r => p ++ 47 :: glueL (q :: r)
theorem splitL_front : ∀ (p : List Nat) (r : List Nat), 47 ∉ p → splitL (p ++ 47 :: r) = p :: splitL r
  | [], r, _ => by rw [List.nil_append, splitL, if_pos rfl]
  | c :: p, r, h => by
    have hc : c ≠ 47 := fun z => h (by rw [z]; simp)
    rw [List.cons_append, splitL, if_neg hc, splitL_front p r (fun z => h (List.mem_cons_of_mem _ z))]
theorem splitL_free : ∀ (p : List Nat), 47 ∉ p → splitL p = [p]
  | [], _ => rfl
  | c :: p, h => by
    have hc : c ≠ 47 := fun z => h (by rw [z]; simp)
    rw [splitL, if_neg hc, splitL_free p (fun z => h (List.mem_cons_of_mem _ z))]
theorem splitL_glue : ∀ (ps : List (List Nat)), ps ≠ [] → (∀ p ∈ ps, 47 ∉ p) → splitL (glueL ps) = ps
  | [], h, _ => absurd rfl h
  | [p], _, h => splitL_free p (h p (by simp))
  | p :: q :: r, _, h => by
    rw [glueL, splitL_front p _ (h p (by simp)), splitL_glue (q :: r) (by simp) (fun z hz => h z (List.mem_cons_of_mem _ hz))]
theorem cs_joinS : ∀ ps : List Str, cs (Str.join ⟨#[47]⟩ ps) = glueL (ps.map cs)
  | [] => rfl
  | [p] => rfl
  | p :: q :: r => by
    show cs (p ++ ⟨#[47]⟩ ++ Str.join ⟨#[47]⟩ (q :: r)) = _
    rw [cs_app, cs_app, cs_joinS (q :: r)]
    simp [glueL]
    rfl
theorem split_ne (x y : Str) : Txt.split x y ≠ [] := by
  unfold Txt.split
  split
  · simp
  · split
    · simp
    · intro e
      have := congrArg List.length e
      rw [length_partsBetween] at this
      simp at this
theorem split_cs (x : Str) : (Txt.split x (Str.ofString "/")).map cs = splitL (cs x) := by
  have e : Str.ofString "/" = ⟨#[47]⟩ := by decide +kernel
  rw [e]
  have h := StrLaws.join_split x ⟨#[47]⟩
  have h2 := congrArg cs h
  rw [cs_joinS] at h2
  rw [← h2, splitL_glue]
  · intro z
    exact split_ne x ⟨#[47]⟩ (List.map_eq_nil_iff.mp z)
  · intro p hp
    obtain ⟨q, hq, rfl⟩ := List.mem_map.mp hp
    exact StrLaws.split_free x 47 q hq
end Tx
namespace Tx
open PySem PySem.NumText PyProof.Rows L2
def dig (c : Nat) : Bool := decide (48 ≤ c ∧ c ≤ 57)
def plainL (l : List Nat) : Bool := (l == [48]) || (!(l == []) && !(l.head? == some 48) && decide (l.length ≤ 600) && l.all dig)
def numL : List Nat → Option Int
  | 45 :: r => if plainL r = true ∧ r ≠ [48] then some (-((digitsVal r : Nat) : Int)) else none
  | l => if plainL l = true then some ((digitsVal l : Nat) : Int) else none
theorem plain_digits {l : List Nat} (h : plainL l = true) : AllDigits l ∧ l ≠ [] ∧ l.length ≤ 600 := by
  unfold plainL at h
  simp only [Bool.or_eq_true, Bool.and_eq_true, beq_iff_eq, Bool.not_eq_true', decide_eq_true_eq] at h
  rcases h with h | ⟨⟨⟨h1, h2⟩, h3⟩, h4⟩
  · subst h
    exact ⟨fun c hc => by rw [List.mem_singleton.mp hc]; decide, by simp, by simp⟩
  · refine ⟨fun c hc => of_decide_eq_true (List.all_eq_true.mp h4 c hc), fun z => ?_, h3⟩
    subst z
    simp at h1
theorem dl_plain {m : Nat} (h : (dl m).length ≤ 600) : plainL (dl m) = true := by
  obtain ⟨c, r, e, hc⟩ := dl_head m
  unfold plainL
  by_cases h0 : m = 0
  · subst h0
    rw [dl_small (by decide)]
    rfl
  · have h49 := hc h0
    simp only [Bool.or_eq_true, Bool.and_eq_true, beq_iff_eq, Bool.not_eq_true', decide_eq_true_eq]
    refine .inr ⟨⟨⟨?_, ?_⟩, h⟩, List.all_eq_true.mpr fun d hd => decide_eq_true (dl_digits m d hd)⟩
    · rw [e]; rfl
    · rw [e]
      show (some c == some 48) = false
      exact beq_eq_false_iff_ne.mpr fun z => by injection z with z; omega
theorem num_text {x : Str} {n : Int} (h : numL (cs x) = some n) : PySem.intText? x = some n ∧ x.length ≤ 640 := by
  have hl := len_cs x
  unfold numL at h
  split at h
  · rename_i r e
    split at h
    · rename_i hp
      injection h with h
      obtain ⟨h1, h2, h3⟩ := plain_digits hp.1
      rw [e] at hl
      simp at hl
      refine ⟨?_, by omega⟩
      rw [← h]
      exact intText_neg e h1 h2 (by omega)
    · cases h
  · split at h
    · rename_i hp
      injection h with h
      obtain ⟨h1, h2, h3⟩ := plain_digits hp
      refine ⟨?_, by omega⟩
      rw [← h]
      exact intText_digits h1 h2 (by omega)
    · cases h
theorem num_digits {l : List Nat} (h : ∀ r, l ≠ 45 :: r) : numL l = if plainL l = true then some ((digitsVal l : Nat) : Int) else none := by
  unfold numL
  split
  · rename_i r; exact absurd rfl (h r)
  · rfl
theorem num_tx {n : Int} (h : (dl n.natAbs).length ≤ 600) : numL (cs (tx n)) = some n := by
  rw [cs_tx]
  by_cases hn : n < 0
  · rw [if_pos hn]
    show (if plainL (dl n.natAbs) = true ∧ dl n.natAbs ≠ [48] then some (-((digitsVal (dl n.natAbs) : Nat) : Int)) else none) = _
    have h0 : dl n.natAbs ≠ [48] := by
      obtain ⟨c, r, e, hc⟩ := dl_head n.natAbs
      have := hc (by omega)
      rw [e]
      intro z
      injection z with z
      omega
    rw [if_pos ⟨dl_plain h, h0⟩, dl_val]
    congr 1
    omega
  · rw [if_neg hn, num_digits, if_pos (dl_plain h), dl_val]
    · congr 1
      omega
    · intro r z
      have := dl_digits n.natAbs 45 (by rw [z]; simp)
      omega
theorem figs : cs (Str.ofString "0123456789") = [48, 49, 50, 51, 52, 53, 54, 55, 56, 57] := by decide +kernel
theorem in_figs (c : Nat) : (!(Builtin.Str.occurrences (Str.ofString "0123456789") ⟨#[c]⟩ 0 (Str.ofString "0123456789").length 1).isEmpty) = dig c := by
  rw [StrLaws.found_one]
  show decide (c ∈ cs (Str.ofString "0123456789")) = _
  rw [figs]
  unfold dig
  apply decide_eq_decide.mpr
  simp
  omega
/-- what a text writes -/
def fracL (l : List Nat) : Option (Int × Int) := match splitL l with
  | [a] => (numL a).map fun n => (n, 1)
  | [a, b] => match numL a, numL b with
    | some t, some u => if 2 ≤ u ∧ Int.gcd u t = 1 then some (t, u) else none
    | _, _ => none
  | _ => none
theorem no_stroke (n : Int) : 47 ∉ cs (tx n) := by
  rw [cs_tx]
  intro h
  split at h
  · rcases List.mem_cons.mp h with z | z
    · omega
    · have := dl_digits _ _ z; omega
  · have := dl_digits _ _ h; omega
theorem frac_one {n : Int} (h : (dl n.natAbs).length ≤ 600) : fracL (cs (tx n)) = some (n, 1) := by
  unfold fracL
  rw [splitL_free _ (no_stroke n)]
  show (numL (cs (tx n))).map _ = _
  rw [num_tx h]; rfl
theorem frac_two {t u : Int} (h : (dl t.natAbs).length ≤ 600) (h' : (dl u.natAbs).length ≤ 600) (hu : 2 ≤ u) (hg : Int.gcd u t = 1) : fracL (cs (tx t) ++ 47 :: cs (tx u)) = some (t, u) := by
  unfold fracL
  rw [splitL_front _ _ (no_stroke t), splitL_free _ (no_stroke u)]
  show (match numL (cs (tx t)), numL (cs (tx u)) with
    | some t, some u => if 2 ≤ u ∧ Int.gcd u t = 1 then some (t, u) else none
    | _, _ => none) = _
  rw [num_tx h, num_tx h']
  exact if_pos ⟨hu, hg⟩
end Tx
namespace L2
open PySem PySem.Spec PyProof.Rows Tx
/-- a list comprehension over a text, sign by sign, its element without any doing -/
theorem lc_signs {x : Str} {te : TE} {g : Nat → V} {Q : VK} {H : Hp} (hx : x.length < sizeLine) (he : ∀ c H' (Q' : VK), Q' (g c) H' → te [some (.str ⟨#[c]⟩)] H' Q') (q : ∀ p, H p = none → Q (.ref p) (upd H p (.lst ((cs x).map g)))) : LcW (Its x) te Q H := by
  have hl := len_cs x
  have hsz : x.cps.size = x.length := rfl
  refine ⟨fun i m ys H' => H' = H ∧ i ≤ x.length ∧ m = x.length - i ∧ ys = ((cs x).take i).map g, ⟨x.length, rfl, Nat.zero_le _, rfl, rfl⟩, ?_⟩
  rintro i m ys H' ⟨rfl, hi, rfl, rfl⟩
  refine ⟨by rw [List.length_map, List.length_take]; omega, ?_⟩
  by_cases h : i < x.length
  · refine .inr ⟨by show i < x.cps.size; omega, ?_⟩
    rintro v H2 ⟨rfl, c, hc, rfl⟩
    refine he c H2 _ ⟨x.length - (i + 1), by omega, rfl, by omega, rfl, ?_⟩
    have hc' : (cs x)[i]? = some c := by rw [← hc]; exact Array.getElem?_toList
    rw [List.take_add_one, hc']
    simp
  · have e : i = x.length := by omega
    subst e
    refine .inl ⟨by show x.cps.size ≤ x.length; omega, fun p hp => ?_⟩
    rw [List.take_of_length_le (by omega)]
    exact q p hp
end L2

set_option Elab.async false
set_option linter.all false
set_option maxRecDepth 100000
set_option maxHeartbeats 4000000
namespace L2
open PySem PySem.Spec PyProof.Rows
/-! ### x = f(..), its exception taken under a name -/
def tTryAs (i : Nat) (sp : Sp) (ta : TA) (mt : Value → Prop) (j : Nat) (ts : TS) : TS := fun D σ H => ta σ H fun vs H1 => sp (vs ++ []) H1 (fun v H2 => D.nx (σ.set i (some v)) H2) fun Cv _ H2 => mt Cv ∧ ∃ C, Cv = .ref C ∧ ∀ ea H3, Same H2 H3 → H3 ea = some (.ext (ExcAt ea C)) → ts (D.less j) (σ.set j (some (.ref ea))) H3
section
variable {X : Cx} {k : Nat} {ps : List Str} {sp : Sp} {x g cx n : Str} {e : Expr} {es : List Expr} {ta : TA} {C2 : Addr} {b0 : Stmt} {suite : List Stmt} {ts : TS} {p1 p2 p3 p4 p5 p6 pos : Pos} {i j : Nat}
theorem qs_tryAs (hst : X.stack = X.env :: X.outer ∧ X.env.frame = some X.env.locals) (C : Cal X.prog X.w X.K X.mg X.base (CXe X.prog X.w) k g ps sp) (hr : Room k X.A) (ha : ∀ pins xe, QA (X.within pins xe) (e :: es) ta) (hg : Gl X g) (hdg : (g == ("__debug__" : Str)) = false)
    (hN : X.N.Nodup) (hi : X.N[i]? = some x) (hx : Loc X.env.scope x) (hf : X.fn x = true ∨ X.env.scope.names.lookup x = some .local) (hj : X.N[j]? = some n) (hk' : X.env.scope.names.lookup n = some .local) (T : Exc X.K X.mg cx C2) (hgc : Gl X cx) (hdc : (cx == ("__debug__" : Str)) = false) (hs : ∀ ea, QSs (X.suite ea) (b0 :: suite) ts)
    (he : starEach (e :: es) X.env = (false, eval e X.env) :: starEach es X.env := by rfl) (hpl : (backTo p3 (starEach es X.env)).any (·.1) = false := by rfl)
    (hsw : swapsWith (.Call (.Name g p2) (e :: es) [] p3) (some (.Name x p1)) p4.line X.env = pure false := by rfl) :
    QS X (.Try [.Assign [.Name x p1] (.Call (.Name g p2) (e :: es) [] p3) p4] [.ExceptHandler (some (.Name cx p5)) (some n) (b0 :: suite) p6] [] [] pos) (tTryAs i sp ta (fun Cv => PySem.W.exmOne X.K Cv (.ref C2) = some true) j ts) := by
  constructor
  intro pins s σ H D I h
  obtain ⟨f, fd, F, hm, hk, hb⟩ := C.ex
  refine wpAny_Try_except ?_
  generalize hxe : (fun (e : Value) (s1 : Shared) => wpAny (model X.prog X.w) X.A (noteFrame e X.env) (fun _ s2 => wpAny (model X.prog X.w) X.A (setFlight e none) (fun _ s3 => wpAny (model X.prog X.w) X.A (handleBy e X.env [.ExceptHandler (some (.Name cx p5)) (some n) (b0 :: suite) p6]) (SP X pins D) X.xe s3) X.xe s2) X.xe s1) = xe
  have call : PE (X.within pins xe) (.Call (.Name g p2) (e :: es) [] p3) (fun σ' H' Q => σ' = σ ∧ ta σ' H' fun vs H1 => sp (vs ++ []) H1 Q fun Cv _ H2 => PySem.W.exmOne X.K Cv (.ref C2) = some true ∧ ∃ C, Cv = .ref C ∧ ∀ ea H3, Same H2 H3 → H3 ea = some (.ext (ExcAt ea C)) → ts (D.less j) (σ.set j (some (.ref ea))) H3) := by
    intro pins' s' σ' H' Q' I' h'
    obtain ⟨rfl, h'⟩ := h'
    refine wpAny_Call_Name_kw (ld_glob I' hg hm ?_ hdg)
    refine PySem.W.callWith_K (h₀ := X.base) I'.ok.mod.kin hk (thn ((ha pins xe).p p3 pins' s' σ' H' _ I' h') fun us s1 ⟨vs, H1, I1, r, q⟩ => ⟨I1.kIn, ?_⟩) he hpl
    have r2 : Vals (vs ++ []) (us ++ []) := r.append .nil
    have hl : (us ++ []).length = ps.length := by rw [← r2.length]; exact F.len _ _ _ _ q
    refine wpAny_call (codeAny_mono (F.run X.A X.stack s1 H1 ⟨us, []⟩ (us ++ []) (vs ++ []) Q' _ hr I1.env0 (hb s1 us I1.kIn hl) r2 q) fun rr s2 hq => ?_)
    cases rr with
    | ok fl =>
      cases fl with
      | ret u => exact I1.after hq
      | next => exact False.elim hq
      | brk => exact False.elim hq
      | cont => exact False.elim hq
    | error ev =>
      show xe ev s2
      rw [← hxe]
      exact taken_as (I1.out I.ok) hst hN hj hk' T hgc hs hq (fun _ _ z => z) hdc
  have body := pss_one (ps_set (X := X.within pins xe) (i := i) (pos := p4) (pos' := p1) hN hi hx call hsw hf)
  refine wpAny_mono (body [] s σ H { D with nx := D.nx } I.within ⟨rfl, h⟩) (fun fl s2 z => ?_) fun ev s2 z => ?_
  · have z' := SP.out I.ok z
    cases fl with
    | next => exact wpAny_execs_nil z'
    | brk => exact z'
    | cont => exact z'
    | ret u => exact z'
  · exact z
end
end L2
namespace Tx
open PySem PySem.NumText PyProof.Rows L2
open Builtin.Str
/-! ### find, slices -/
theorem at_stroke (x : Str) (i : Nat) : StrLaws.At x ⟨#[47]⟩ x.length i ↔ (cs x)[i]? = some 47 := StrLaws.subAt_one x 47 i
theorem e_stroke : Str.ofString "/" = ⟨#[47]⟩ := by decide +kernel
theorem find_stroke (x : Str) : (47 ∉ cs x ∧ Txt.find x (Str.ofString "/") = -1) ∨ ∃ a b, cs x = a ++ 47 :: b ∧ 47 ∉ a ∧ Txt.find x (Str.ofString "/") = (a.length : Nat) := by
  rw [e_stroke]
  unfold Txt.find
  rcases StrLaws.occ_head x ⟨#[47]⟩ 1 (by decide) with ⟨h0, hn⟩ | ⟨i, r, h0, hi, hn⟩
  · rw [h0]
    refine .inl ⟨fun h => ?_, rfl⟩
    obtain ⟨i, hi⟩ := List.mem_iff_getElem?.mp h
    exact hn i ((at_stroke x i).mpr hi)
  · rw [h0]
    have hi' := (at_stroke x i).mp hi
    obtain ⟨hlt, e⟩ := List.getElem?_eq_some_iff.mp hi'
    refine .inr ⟨(cs x).take i, (cs x).drop (i + 1), ?_, ?_, ?_⟩
    · rw [← e, ← List.drop_eq_getElem_cons hlt, List.take_append_drop]
    · intro h
      obtain ⟨k, hk⟩ := List.mem_iff_getElem?.mp h
      have hki : k < i := by
        have := (List.getElem?_eq_some_iff.mp hk).1
        rw [List.length_take] at this
        omega
      rw [List.getElem?_take_of_lt hki] at hk
      exact hn k hki ((at_stroke x k).mpr hk)
    · rw [List.length_take, Nat.min_eq_left (by omega)]
theorem slice_hi (x : Str) (l : Option Int) {j : Int} (h : (x.length : Int) ≤ j) : Txt.slice x l (some j) = Txt.slice x l (some (x.length : Int)) := by
  have e : strSliceIndices l (some j) 1 x.length = strSliceIndices l (some (x.length : Int)) 1 x.length := by
    have h1 : ¬ j < 0 := by omega
    have h2 : ¬ ((x.length : Int)) < 0 := by omega
    have h3 : max (0 : Int) (min j x.length) = x.length := by omega
    have h4 : max (0 : Int) (min (x.length : Int) x.length) = x.length := by omega
    simp [strSliceIndices, h1, h2, h3, h4]
  unfold Txt.slice
  rw [e]
theorem slice_lo (x : Str) (u : Option Int) {i : Int} (h : (x.length : Int) ≤ i) : Txt.slice x (some i) u = Txt.slice x (some (x.length : Int)) u := by
  have e : strSliceIndices (some i) u 1 x.length = strSliceIndices (some (x.length : Int)) u 1 x.length := by
    have h1 : ¬ i < 0 := by omega
    have h2 : ¬ ((x.length : Int)) < 0 := by omega
    have h3 : max (0 : Int) (min i x.length) = x.length := by omega
    have h4 : max (0 : Int) (min (x.length : Int) x.length) = x.length := by omega
    simp [strSliceIndices, h1, h2, h3, h4]
  unfold Txt.slice
  rw [e]
theorem slice_to {x : Str} {j : Int} (h : 0 ≤ j) : cs (Txt.slice x none (some j)) = (cs x).take j.toNat := by
  have hl := len_cs x
  by_cases hj : j ≤ x.length
  · have e : Txt.slice x none (some j) = ⟨(((cs x).drop 0).take (j - 0).toNat).toArray⟩ := StrLaws.sliceText_to ⟨h, by show j ≤ ((cs x).length : Nat); omega⟩
    rw [e, cs_st, List.drop_zero, Int.sub_zero]
  · rw [slice_hi x none (by omega)]
    have e : Txt.slice x none (some (x.length : Int)) = ⟨(((cs x).drop 0).take ((x.length : Int) - 0).toNat).toArray⟩ := StrLaws.sliceText_to ⟨by omega, by show (x.length : Int) ≤ ((cs x).length : Nat); omega⟩
    rw [e, cs_st, List.drop_zero, List.take_of_length_le (by omega), List.take_of_length_le (by omega)]
theorem slice_from {x : Str} {i : Int} (h : 0 ≤ i) : cs (Txt.slice x (some i) none) = (cs x).drop i.toNat := by
  have hl := len_cs x
  by_cases hi : i ≤ x.length
  · rw [slice_from_eq (b := x.length) h hi rfl, cs_st]
    refine List.take_of_length_le ?_
    rw [List.length_drop]
    show (cs x).length - i.toNat ≤ _
    omega
  · rw [slice_lo x none (by omega), slice_from_eq (b := x.length) (by omega) (by omega) rfl, cs_st]
    rw [List.drop_eq_nil_of_le (by show (cs x).length ≤ _; omega), List.drop_eq_nil_of_le (by omega)]
    simp
theorem index_fig {c : Nat} (h : dig c = true) : ∃ r, occurrences (Str.ofString "0123456789") ⟨#[c]⟩ 0 (Str.ofString "0123456789").length 1 = (c - 48) :: r := by
  have hc : 48 ≤ c ∧ c ≤ 57 := of_decide_eq_true h
  rcases StrLaws.occ_head (Str.ofString "0123456789") ⟨#[c]⟩ 1 (by decide) with ⟨h0, hn⟩ | ⟨i, r, h0, hi, hn⟩
  · exfalso
    refine hn (c - 48) ((StrLaws.subAt_one _ c (c - 48)).mpr ?_)
    show (cs (Str.ofString "0123456789"))[c - 48]? = _
    rw [figs]
    have : ∀ d : Nat, d < 58 → 48 ≤ d → [48, 49, 50, 51, 52, 53, 54, 55, 56, 57][d - 48]? = some d := by decide
    exact this c (by omega) hc.1
  · refine ⟨r, ?_⟩
    rw [h0]
    have hi' := (StrLaws.subAt_one _ c i).mp hi
    have hi' : (cs (Str.ofString "0123456789"))[i]? = some c := hi'
    rw [figs] at hi'
    have hlt := (List.getElem?_eq_some_iff.mp hi').1
    have : ∀ i : Nat, i < 10 → [48, 49, 50, 51, 52, 53, 54, 55, 56, 57][i]? = some (48 + i) := by decide
    rw [this i hlt] at hi'
    injection hi' with hi'
    congr 1
    omega
/-! ### what is due, part by part -/
theorem plain_zero {l : List Nat} (h : plainL l = true) : digitsVal l = 0 ↔ l = [48] := by
  constructor
  · intro h0
    unfold plainL at h
    simp only [Bool.or_eq_true, Bool.and_eq_true, beq_iff_eq, Bool.not_eq_true', decide_eq_true_eq] at h
    rcases h with h | ⟨⟨⟨h1, h2⟩, h3⟩, h4⟩
    · exact h
    · cases l with
      | nil => simp at h1
      | cons c r =>
        have hc : 48 ≤ c ∧ c ≤ 57 := of_decide_eq_true (List.all_eq_true.mp h4 c (by simp))
        have hc2 : c ≠ 48 := fun z => by rw [z] at h2; simp at h2
        have := digitsVal_pos (cs := r) (show 49 ≤ c by omega)
        omega
  · intro e; subst e; rfl
def tailF (a : List Nat) (u : Int) : Option (Int × Int) := match numL a with
  | some t => if Int.gcd u t = 1 then some (t, u) else none
  | none => none
theorem frac_no {l : List Nat} (h : 47 ∉ l) : fracL l = tailF l 1 := by
  unfold fracL tailF
  rw [splitL_free l h]
  show (numL l).map _ = _
  cases numL l with
  | none => rfl
  | some t => show _ = if Int.gcd 1 t = 1 then some (t, 1) else none; rw [Int.gcd_one_left]; rfl
theorem split_many : ∀ (b : List Nat), 47 ∈ b → ∃ p q r, splitL b = p :: q :: r
  | [], h => by cases h
  | c :: b, h => by
    by_cases hc : c = 47
    · subst hc
      have : ∃ p r, splitL b = p :: r := by
        cases b with
        | nil => exact ⟨_, _, rfl⟩
        | cons d b =>
          rw [splitL]
          split
          · exact ⟨_, _, rfl⟩
          · split
            · exact ⟨_, _, rfl⟩
            · exact ⟨_, _, rfl⟩
      obtain ⟨p, r, e⟩ := this
      exact ⟨[], p, r, by rw [splitL, if_pos rfl, e]⟩
    · have hb : 47 ∈ b := by
        rcases List.mem_cons.mp h with z | z
        · exact absurd z.symm hc
        · exact z
      obtain ⟨p, q, r, e⟩ := split_many b hb
      exact ⟨c :: p, q, r, by rw [splitL, if_neg hc, e]⟩
theorem plain_free {b : List Nat} (h : plainL b = true) : 47 ∉ b := fun z => by
  have := (plain_digits h).1 47 z
  omega
theorem plain_num {b : List Nat} (h : plainL b = true) : numL b = some ((digitsVal b : Nat) : Int) := by
  rw [num_digits, if_pos h]
  intro r z
  have := (plain_digits h).1 45 (by rw [z]; simp)
  omega
theorem frac_low {a b : List Nat} (ha : 47 ∉ a) (h : plainL b = false ∨ ((digitsVal b : Nat) : Int) < 2) : fracL (a ++ 47 :: b) = none := by
  unfold fracL
  rw [splitL_front a b ha]
  by_cases hb : 47 ∈ b
  · obtain ⟨p, q, r, e⟩ := split_many b hb
    rw [e]
  · rw [splitL_free b hb]
    show (match numL a, numL b with
      | some t, some u => if 2 ≤ u ∧ Int.gcd u t = 1 then some (t, u) else none
      | _, _ => none) = none
    cases e1 : numL a with
    | none => rfl
    | some t =>
      cases e2 : numL b with
      | none => rfl
      | some u =>
        refine if_neg fun z => ?_
        by_cases hp : plainL b = true
        · rw [plain_num hp] at e2
          injection e2 with e2
          rcases h with h | h
          · rw [hp] at h; cases h
          · omega
        · unfold numL at e2
          split at e2
          · split at e2
            · injection e2 with e2; omega
            · cases e2
          · rw [if_neg hp] at e2; cases e2
theorem frac_high {a b : List Nat} (ha : 47 ∉ a) (h : plainL b = true) (h2 : 2 ≤ ((digitsVal b : Nat) : Int)) : fracL (a ++ 47 :: b) = tailF a ((digitsVal b : Nat) : Int) := by
  unfold fracL tailF
  rw [splitL_front a b ha, splitL_free b (plain_free h)]
  show (match numL a, numL b with
    | some t, some u => if 2 ≤ u ∧ Int.gcd u t = 1 then some (t, u) else none
    | _, _ => none) = _
  rw [plain_num h]
  cases numL a with
  | none => rfl
  | some t =>
    show (if 2 ≤ ((digitsVal b : Nat) : Int) ∧ _ then _ else _) = if _ then _ else _
    by_cases hg : Int.gcd ((digitsVal b : Nat) : Int) t = 1
    · rw [if_pos ⟨h2, hg⟩, if_pos hg]
    · rw [if_neg (fun z => hg z.2), if_neg hg]
end Tx
namespace L2
open PySem PySem.Spec PyProof.Rows Tx
section
variable {X : Cx}
theorem op_mul_str : OpR X (binaryOp .Mult) (fun x y H Q => ∃ z n, x = .str z ∧ y = .int n ∧ MulOk z n ∧ Q (.str (Txt.mul z n)) H) := by
  intro pins s σ H x y v u Q I rx ry h
  obtain ⟨z, n, rfl, rfl, hm, q⟩ := h
  obtain ⟨t, rfl⟩ := rx
  obtain ⟨t2, rfl⟩ := ry
  exact SB.mul hm fun t' k => ⟨.str _, H, I.tok k, ⟨t', rfl⟩, q⟩
end
theorem mn_slS {te : TE} {tl th : TO} (h1 : MnE te) (h2 : ∀ σ H (Q Q' : Option Int → Hp → Prop), (∀ v H1, Q v H1 → Q' v H1) → tl σ H Q → tl σ H Q') (h3 : ∀ σ H (Q Q' : Option Int → Hp → Prop), (∀ v H1, Q v H1 → Q' v H1) → th σ H Q → th σ H Q') : MnE (tSl rSlS te tl th) :=
  fun _ _ _ _ m q => h1 _ _ _ _ (fun _ _ q1 => h2 _ _ _ _ (fun _ _ q2 => h3 _ _ _ _ (fun _ _ ⟨y, e, z, q3⟩ => ⟨y, e, z, m _ _ q3⟩) q2) q1) q
theorem mn_noPart : ∀ σ H (Q Q' : Option Int → Hp → Prop), (∀ v H1, Q v H1 → Q' v H1) → tNoPart σ H Q → tNoPart σ H Q' := fun _ _ _ _ m q => m _ _ q
theorem mn_part {te : TE} (h : MnE te) : ∀ σ H (Q Q' : Option Int → Hp → Prop), (∀ v H1, Q v H1 → Q' v H1) → tPart te σ H Q → tPart te σ H Q' := fun _ _ _ _ m q => h _ _ _ _ (fun _ _ ⟨i, e, q1⟩ => ⟨i, e, m _ _ q1⟩) q
theorem mn_isN : MnR (fun x y H Q => y = .non ∧ Q (.bl (decide (x = .non))) H) := fun _ _ _ _ _ m ⟨h, q⟩ => ⟨h, m _ _ q⟩
end L2
namespace L2
open PySem PySem.Spec PyProof.Rows Tx
/-- a for over a text, sign by sign -/
theorem for_signs {x : Str} {g : TG} {tb : TS} {D : Ends} {σ : St} {H : Hp} (Pv : Nat → St → Hp → Prop) (h0 : Pv 0 σ H)
    (hs : ∀ i c σ H, (cs x)[i]? = some c → Pv i σ H → g (.str ⟨#[c]⟩) σ H fun σ2 H2 => tb { D with nx := Pv (i + 1), ct := Pv (i + 1), bk := D.nx } σ2 H2) (hd : ∀ σ H, Pv x.length σ H → D.nx σ H) :
    ∃ W : Nat → Nat → St → Hp → Prop, (∃ m, W 0 m σ H) ∧ ∀ i m σ H, W i m σ H →
      ((Its x).stop i H ∧ D.nx σ H) ∨ ((Its x).go i H ∧ ∃ N : St → Hp → Prop, (∀ σ' H', N σ' H' → ∃ m', m' < m ∧ W (i + 1) m' σ' H') ∧ ∀ v H', (Its x).yld i H v H' → g v σ H' fun σ2 H2 => tb { D with nx := N, ct := N, bk := D.nx } σ2 H2) := by
  have hsz : x.cps.size = x.length := rfl
  refine ⟨fun i m σ H => m = x.length - i ∧ i ≤ x.length ∧ Pv i σ H, ⟨x.length, by simp, Nat.zero_le _, h0⟩, ?_⟩
  rintro i m σ H ⟨rfl, hi, p⟩
  by_cases hlt : i < x.length
  · refine .inr ⟨by show i < x.cps.size; omega, Pv (i + 1), fun σ' H' q => ⟨x.length - (i + 1), by omega, rfl, by omega, q⟩, ?_⟩
    rintro v H' ⟨rfl, c, hc, rfl⟩
    exact hs i c σ H' (by rw [← hc]; exact Array.getElem?_toList) p
  · have e : i = x.length := by omega
    subst e
    exact .inl ⟨by show x.cps.size ≤ x.length; omega, hd _ _ p⟩
/-! lengths of texts -/
def Lb (n : Nat) (x : Str) : Prop := x.length ≤ n
theorem Lb.app {m n : Nat} {x y : Str} (h : Lb m x) (h' : Lb n y) : Lb (m + n) (x ++ y) := by
  unfold Lb at *
  rw [Str.length_append]; omega
theorem Lb.lit {x : Str} (h : x.length ≤ 700) : Lb 700 x := h
theorem Lb.fit {m n : Nat} {x y : Str} (h : Lb m x) (h' : Lb n y) (k : m + n ≤ sizeLine) : x.length + y.length ≤ sizeLine := Nat.le_trans (Nat.add_le_add h h') k
theorem Lb.le {m n : Nat} {x : Str} (h : Lb m x) (k : m ≤ n := by decide) : Lb n x := Nat.le_trans h k
def AllS (xs : List V) : Prop := ∀ v ∈ xs, ∃ y, v = .str y ∧ Lb 5000 y
theorem AllS.nil : AllS [] := fun _ h => nomatch h
theorem AllS.cons {n : Nat} {y : Str} {r : List V} (h : Lb n y) (k : n ≤ 5000) (t : AllS r) : AllS (.str y :: r) := fun v hv => by
  rcases List.mem_cons.mp hv with rfl | hv
  · exact ⟨y, rfl, h.le k⟩
  · exact t v hv
theorem AllS.app {r t : List V} (h : AllS r) (h' : AllS t) : AllS (r ++ t) := fun v hv => (List.mem_append.mp hv).elim (h v) (h' v)
end L2
namespace Tx
open PySem PySem.NumText PyProof.Rows L2
theorem digitsVal_lt {l : List Nat} (h : AllDigits l) : digitsVal l < 10 ^ l.length := by
  have key : ∀ (n : Nat) (l : List Nat), l.length = n → AllDigits l → digitsVal l < 10 ^ n := by
    intro n
    induction n with
    | zero => intro l hl _; rw [List.length_eq_zero_iff.mp hl]; decide
    | succ n ih =>
      intro l hl h
      have hne : l ≠ [] := by intro e; rw [e] at hl; simp at hl
      have e := List.dropLast_concat_getLast hne
      rw [← e] at h ⊢
      rw [digitsVal_snoc]
      have h1 := ih l.dropLast (by rw [List.length_dropLast, hl]; rfl) (fun d hd => h d (List.mem_append_left _ hd))
      have h2 := h (l.getLast hne) (by simp)
      rw [Nat.pow_succ]
      omega
  exact key l.length l rfl h
end Tx
namespace L2
open PySem PySem.Spec PyProof.Rows Tx
theorem mn_lenS : MnC (fun xs H Q => ∃ z, xs = [V.str z] ∧ z.length ≤ sizeLine ∧ Q (V.int (z.length : Nat)) H) := fun _ _ _ _ m ⟨z, e, h, q⟩ => ⟨z, e, h, m _ _ q⟩
theorem mn_rIxS : MnR rIxS := fun _ _ _ _ _ m ⟨z, i, c, e1, e2, h, a, q⟩ => ⟨z, i, c, e1, e2, h, a, m _ _ q⟩
end L2

set_option Elab.async false
set_option linter.all false
set_option maxRecDepth 100000
set_option maxHeartbeats 4000000
namespace Mth
theorem nat_cop_of {a b : Nat} (h : ∀ p, p ∣ a → p ∣ b → p ∣ 1) : Nat.Coprime a b :=
  Nat.dvd_one.mp (h _ (Nat.gcd_dvd_left a b) (Nat.gcd_dvd_right a b))
theorem dvd_nat {p : Nat} {x : Int} : p ∣ x.natAbs ↔ (p : Int) ∣ x := by rw [← Int.natAbs_dvd_natAbs, Int.natAbs_natCast]
/-- a divisor of a sum and of one bottom divides the one top -/
theorem dvd_top {p z c : Nat} {x a : Int} (hzc : Nat.Coprime z c) (pz : p ∣ z) (h : (p : Int) ∣ x * (c : Int) + a * (z : Int)) : p ∣ x.natAbs := by
  have h1 : (p : Int) ∣ a * (z : Int) := Int.dvd_trans (Int.natCast_dvd_natCast.mpr pz) (Int.dvd_mul_left _ _)
  have h2 : (p : Int) ∣ x * (c : Int) := (Int.dvd_add_left h1).mp h
  have h3 : p ∣ x.natAbs * c := by
    have := dvd_nat.mpr h2
    rw [Int.natAbs_mul, Int.natAbs_natCast] at this
    exact this
  exact (Nat.Coprime.coprime_dvd_left pz hzc).dvd_of_dvd_mul_right h3
theorem place_sum {x y z a b c : Int} (hz : 0 < z) (hc : 0 < c) (h1 : Int.gcd ((Int.gcd x y : Nat) : Int) z = 1) (h2 : Int.gcd ((Int.gcd a b : Nat) : Int) c = 1)
    {g u v r : Int} (eg : g = ((Int.gcd z c : Nat) : Int)) (eu : u = x * (c / g) + a * (z / g)) (ev : v = y * (c / g) + b * (z / g)) (er : r = ((Int.gcd ((Int.gcd g u : Nat) : Int) v : Nat) : Int)) :
    0 < g ∧ 0 < r ∧ g.natAbs ≤ z.natAbs ∧ r.natAbs ≤ z.natAbs ∧ Plc (x * c + a * z) (y * c + b * z) (z * c) (u / r) (v / r) (z / g * (c / r)) := by
  have gp := (Int.gcd_pos_iff (a := z) (b := c)).mpr (.inl (by omega))
  have hg : 0 < g := by omega
  have gz : g ∣ z := eg ▸ Int.gcd_dvd_left z c
  have gc : g ∣ c := eg ▸ Int.gcd_dvd_right z c
  have e3 : r = g3 u v g := er
  have hr : 0 < r := e3 ▸ g3_pos hg
  have rg : r ∣ g := e3 ▸ g3_dvd_b u v g
  have ru : r ∣ u := e3 ▸ g3_dvd_x u v g
  have rv : r ∣ v := e3 ▸ g3_dvd_y u v g
  obtain ⟨z', ez⟩ := gz
  obtain ⟨c', ec⟩ := gc
  obtain ⟨g', eg'⟩ := rg
  obtain ⟨u', eu'⟩ := ru
  obtain ⟨v', ev'⟩ := rv
  have q1 : z / g = z' := by rw [ez]; exact Int.mul_ediv_cancel_left z' (by omega)
  have q2 : c / g = c' := by rw [ec]; exact Int.mul_ediv_cancel_left c' (by omega)
  have q3 : u / r = u' := by rw [eu']; exact Int.mul_ediv_cancel_left u' (by omega)
  have q4 : v / r = v' := by rw [ev']; exact Int.mul_ediv_cancel_left v' (by omega)
  have q5 : c / r = g' * c' := by rw [ec, eg', Int.mul_assoc]; exact Int.mul_ediv_cancel_left _ (by omega)
  rw [q1, q2] at eu ev
  rw [q1, q3, q4, q5]
  have hz' : 0 < z' := by
    rcases (show z' ≤ 0 ∨ 0 < z' by omega) with h | h
    · have := Int.mul_nonpos_of_nonneg_of_nonpos (Int.le_of_lt hg) h; omega
    · exact h
  have hc' : 0 < c' := by
    rcases (show c' ≤ 0 ∨ 0 < c' by omega) with h | h
    · have := Int.mul_nonpos_of_nonneg_of_nonpos (Int.le_of_lt hg) h; omega
    · exact h
  have hg' : 0 < g' := by
    rcases (show g' ≤ 0 ∨ 0 < g' by omega) with h | h
    · have := Int.mul_nonpos_of_nonneg_of_nonpos (Int.le_of_lt hr) h; omega
    · exact h
  have czc : Nat.Coprime z'.natAbs c'.natAbs := by
    have q := Int.gcd_mul_left g z' c'
    rw [← ez, ← ec] at q
    have q' : g.natAbs * 1 = g.natAbs * Int.gcd z' c' := by omega
    exact (Nat.eq_of_mul_eq_mul_left (by omega) q').symm
  have cg : Nat.gcd (Nat.gcd g'.natAbs u'.natAbs) v'.natAbs = 1 := by
    have n1 := congrArg Int.natAbs eg'
    have n2 := congrArg Int.natAbs eu'
    have n3 := congrArg Int.natAbs ev'
    rw [Int.natAbs_mul] at n1 n2 n3
    have er' : r.natAbs = Nat.gcd (Nat.gcd g.natAbs u.natAbs) v.natAbs := by rw [er, Int.natAbs_natCast, gcd_cast]
    rw [n1, n2, n3, Nat.gcd_mul_left, Nat.gcd_mul_left] at er'
    have : r.natAbs * 1 = r.natAbs * Nat.gcd (Nat.gcd g'.natAbs u'.natAbs) v'.natAbs := by omega
    exact (Nat.eq_of_mul_eq_mul_left (by omega) this).symm
  have hzn : ((z'.natAbs : Nat) : Int) = z' := Int.natAbs_of_nonneg (by omega)
  have hcn : ((c'.natAbs : Nat) : Int) = c' := Int.natAbs_of_nonneg (by omega)
  have big : ∀ {p : Nat}, p ∣ u'.natAbs → (p : Int) ∣ u := fun h => eu' ▸ Int.dvd_trans (dvd_nat.mp h) (Int.dvd_mul_left _ _)
  have big2 : ∀ {p : Nat}, p ∣ v'.natAbs → (p : Int) ∣ v := fun h => ev' ▸ Int.dvd_trans (dvd_nat.mp h) (Int.dvd_mul_left _ _)
  have k1 : Nat.Coprime (Nat.gcd u'.natAbs v'.natAbs) z'.natAbs := by
    refine nat_cop_of fun p p1 p2 => ?_
    have pu := big (Nat.dvd_trans p1 (Nat.gcd_dvd_left _ _))
    have pv := big2 (Nat.dvd_trans p1 (Nat.gcd_dvd_right _ _))
    rw [eu, ← hzn, ← hcn] at pu
    rw [ev, ← hzn, ← hcn] at pv
    have pz : p ∣ z.natAbs := by rw [ez, Int.natAbs_mul]; exact Nat.dvd_trans p2 (Nat.dvd_mul_left _ _)
    have := Nat.dvd_gcd (Nat.dvd_gcd (dvd_top czc p2 pu) (dvd_top czc p2 pv)) pz
    rw [gcd_cast] at h1
    rw [h1] at this
    exact this
  have k2 : Nat.Coprime (Nat.gcd u'.natAbs v'.natAbs) c'.natAbs := by
    refine nat_cop_of fun p p1 p2 => ?_
    have pu := big (Nat.dvd_trans p1 (Nat.gcd_dvd_left _ _))
    have pv := big2 (Nat.dvd_trans p1 (Nat.gcd_dvd_right _ _))
    rw [eu, ← hzn, ← hcn, Int.add_comm] at pu
    rw [ev, ← hzn, ← hcn, Int.add_comm] at pv
    have pz : p ∣ c.natAbs := by rw [ec, Int.natAbs_mul]; exact Nat.dvd_trans p2 (Nat.dvd_mul_left _ _)
    have := Nat.dvd_gcd (Nat.dvd_gcd (dvd_top czc.symm p2 pu) (dvd_top czc.symm p2 pv)) pz
    rw [gcd_cast] at h2
    rw [h2] at this
    exact this
  have k3 : Nat.Coprime (Nat.gcd u'.natAbs v'.natAbs) g'.natAbs := by
    refine nat_cop_of fun p p1 p2 => ?_
    have := Nat.dvd_gcd (Nat.dvd_gcd p2 (Nat.dvd_trans p1 (Nat.gcd_dvd_left _ _))) (Nat.dvd_trans p1 (Nat.gcd_dvd_right _ _))
    rw [cg] at this
    exact this
  have eX : x * c + a * z = g * r * u' := by rw [Int.mul_assoc, ← eu', eu, ec, ez]; grind
  have eY : y * c + b * z = g * r * v' := by rw [Int.mul_assoc, ← ev', ev, ec, ez]; grind
  have eZ : z * c = g * r * (z' * (g' * c')) := by rw [ez, ec]; generalize g = G at eg' ⊢; subst eg'; grind
  have hgr : 0 < g * r := Int.mul_pos hg hr
  have small : ∀ k : Int, k.natAbs ≤ (g * r * k).natAbs := fun k => by
    rw [Int.natAbs_mul]
    exact Nat.le_mul_of_pos_left _ (by omega)
  refine ⟨hg, hr, Nat.le_of_dvd (by omega) (Int.natAbs_dvd_natAbs.mpr ⟨z', ez⟩), Nat.le_of_dvd (by omega) (Int.natAbs_dvd_natAbs.mpr ⟨g' * z', by rw [ez, eg', Int.mul_assoc]⟩), ?_, ?_, ?_, ?_, ?_, ?_, ?_⟩
  · have := Int.mul_pos hz' (Int.mul_pos hg' hc')
    omega
  · rw [gcd_cast, Int.natAbs_mul, Int.natAbs_mul]
    exact Nat.Coprime.mul_right k1 (Nat.Coprime.mul_right k3 k2)
  · rw [eX, eZ]; grind
  · rw [eY, eZ]; grind
  · rw [eX]; exact small _
  · rw [eY]; exact small _
  · rw [eZ]; exact small _
theorem frac_sum {a b c d : Int} (hb : 0 < b) (hd : 0 < d) (h1 : Int.gcd a b = 1) (h2 : Int.gcd c d = 1) {g t r : Int} (eg : g = ((Int.gcd b d : Nat) : Int)) (et : t = a * (d / g) + c * (b / g)) (er : r = ((Int.gcd g t : Nat) : Int)) :
    0 < g ∧ 0 < r ∧ g.natAbs ≤ b.natAbs ∧ r.natAbs ≤ b.natAbs ∧ t / r = lowT (a * d + c * b) (b * d) ∧ b / g * (d / r) = lowB (a * d + c * b) (b * d) := by
  obtain ⟨hg, hr, l1, l2, P⟩ := place_sum (x := a) (y := 0) (z := b) (a := c) (b := 0) (c := d) (v := 0) (r := r) hb hd (by rw [gcd_cast]; simp; exact h1) (by rw [gcd_cast]; simp; exact h2) eg et (by simp) (by rw [er]; simp)
  have hbd : b * d ≠ 0 := by have := Int.mul_pos hb hd; omega
  refine ⟨hg, hr, l1, l2, ?_⟩
  have hp := P.pos
  have cop : Int.gcd (t / r) (b / g * (d / r)) = 1 := by
    have := P.cop
    rw [gcd_cast] at this
    simp at this
    exact this
  refine cop_eq (by omega) (by have := lowB_pos (t := a * d + c * b) hbd; omega) cop (low_gcd hbd) ?_
  have e1 := P.cx
  have e2 := low_cross (t := a * d + c * b) hbd
  refine Int.eq_of_mul_eq_mul_right hbd ?_
  generalize t / r = U at *
  generalize b / g * (d / r) = V at *
  generalize lowT (a * d + c * b) (b * d) = T at *
  generalize lowB (a * d + c * b) (b * d) = B at *
  have h3 : U * B * (b * d) = U * (b * d) * B := by grind
  have h4 : T * V * (b * d) = T * (b * d) * V := by grind
  rw [h3, h4, e1, e2]
  grind
end Mth

set_option Elab.async false
set_option linter.all false
set_option maxRecDepth 100000
set_option maxHeartbeats 4000000
/-! ### reading by rote -/
local macro_rules | `(tactic| walk_at "hp") => `(tactic| first | assumption | (refine L2.sm_back (by assumption) ?_; walk_at "hp"))
local macro_rules | `(tactic| walk_at "bt") => `(tactic| first | assumption | (refine L2.Bt.add ?_ ?_ <;> walk_at "bt") | (refine L2.Bt.sub ?_ ?_ <;> walk_at "bt") | (refine L2.Bt.mul ?_ ?_ <;> walk_at "bt") | (refine L2.Bt.neg ?_; walk_at "bt") | exact L2.bt_k (by decide +kernel) | exact L2.bt_n (by omega) (by omega))
local macro_rules | `(tactic| walk_at "co") => `(tactic| first | (show L2.CMulB _ _; exact ⟨L2.Bt.le (by walk_at "bt") (by decide), L2.Bt.le (by walk_at "bt") (by decide)⟩) | (show (0 : Int) < _; first | decide | omega | assumption) | (show L2.CPow _ _; exact ⟨by decide, by decide, by decide⟩) | (show L2.CDivP _ _; first | exact ⟨by decide, L2.bt_small (by decide) (by decide)⟩ | exact ⟨by omega, L2.Bt.le (by walk_at "bt") (by decide)⟩ | exact ⟨by omega, L2.bt_small (by omega) (by omega)⟩))
local macro_rules | `(tactic| walk_at "rd") => `(tactic| repeat (first
  | (refine ⟨_, rfl, ?_⟩)
  | (refine ⟨_, _, rfl, rfl, ?_⟩)
  | (refine ⟨rfl, ?_⟩)
  | (refine ⟨by walk_at "co", ?_⟩)
  | (refine ⟨_, _, _, _, rfl, rfl, L2.SqT.of (by walk_at "hp"), (by first | exact L2.at0 | exact L2.at1 | exact L2.at2), ?_⟩)
  | (refine ⟨_, _, _, _, rfl, rfl, L2.SqL.of (by walk_at "hp"), (by assumption), ?_⟩)
  | (refine ⟨_, _, rfl, Or.inl (L2.SqL.of (by walk_at "hp")), ?_⟩)
  | (refine ⟨_, _, rfl, Or.inr (L2.SqT.of (by walk_at "hp")), ?_⟩)
  | (refine ⟨_, _, rfl, ?_⟩)))
local macro_rules | `(tactic| walk_at "mn") => `(tactic| repeat (with_reducible (first | assumption | exact L2.mn_var | exact L2.mn_c | exact L2.mn_nil | exact L2.mn_next | exact L2.mn_never | exact L2.mn_rI | exact L2.mn_rI0 | exact L2.mn_rU | exact L2.mn_rEq | exact L2.mn_rNe | exact L2.mn_rEqD | exact L2.mn_rIxL | exact L2.mn_rIxT | refine L2.mn_op ?_ ?_ ?_ | refine L2.mn_un ?_ ?_ | refine L2.mn_test ?_ | refine L2.mn_tB ?_ | refine L2.mn_not ?_ | refine L2.mn_and ?_ ?_ | refine L2.mn_or ?_ ?_ | refine L2.mn_cons ?_ ?_ | refine L2.mn_tupS ?_ | refine L2.mn_lstS ?_ | refine L2.mn_seq ?_ ?_ | refine L2.mn_asg ?_ | refine L2.mn_if ?_ ?_ ?_ | refine L2.mn_ret ?_ | refine L2.mn_call ?_ ?_ | refine L2.mn_cb ?_ ?_ | exact L2.mn_lenS | exact L2.mn_addS | exact L2.mn_strI | exact L2.mn_int1 | exact L2.mn_rIxS | exact L2.mn_isN | exact L2.mn_noPart | refine L2.mn_part ?_ | refine L2.mn_slS ?_ ?_ ?_)))
local macro_rules | `(tactic| walk_at "s0") => `(tactic| first | assumption | exact L2.Lb.lit (by decide +kernel))
local macro_rules | `(tactic| walk_at "s1") => `(tactic| first | walk_at "s0" | (apply L2.Lb.app; (walk_at "s0"); (walk_at "s0")))
local macro_rules | `(tactic| walk_at "s2") => `(tactic| first | walk_at "s1" | (apply L2.Lb.app; (walk_at "s1"); (walk_at "s1")))
local macro_rules | `(tactic| walk_at "sl") => `(tactic| first | walk_at "s2" | (apply L2.Lb.app; (walk_at "s2"); (walk_at "s2")))
local macro_rules | `(tactic| walk_at "co") => `(tactic| (show _ + _ ≤ PySem.sizeLine; exact L2.Lb.fit (by walk_at "sl") (by walk_at "sl") (by decide)))
local macro_rules | `(tactic| walk_at "as") => `(tactic| first | exact L2.AllS.nil | (apply L2.AllS.cons; (walk_at "sl"); (decide); (walk_at "as")))

namespace My
open PySem L2 Mth Tx
def top (i : Nat) : Stmt := PySem.Challenge.pw_closehaul_k04_fractions_written_and_read.main.body.getD i (.Pass ⟨0, 0, 0, 0⟩)
theorem d_BLOCK_FIGURES : (("BLOCK_FIGURES" : Str) == ("__debug__" : Str)) = false := by decide
theorem d_FIGURES : (("FIGURES" : Str) == ("__debug__" : Str)) = false := by decide
theorem d_MOST_FIGURES : (("MOST_FIGURES" : Str) == ("__debug__" : Str)) = false := by decide
theorem d_NoText : (("NoText" : Str) == ("__debug__" : Str)) = false := by decide
theorem d__law_fraction : (("_law_fraction" : Str) == ("__debug__" : Str)) = false := by decide
theorem d__law_is : (("_law_is" : Str) == ("__debug__" : Str)) = false := by decide
theorem d__law_measure : (("_law_measure" : Str) == ("__debug__" : Str)) = false := by decide
theorem d__law_stir : (("_law_stir" : Str) == ("__debug__" : Str)) = false := by decide
theorem d__law_text : (("_law_text" : Str) == ("__debug__" : Str)) = false := by decide
theorem d_abs : (("abs" : Str) == ("__debug__" : Str)) = false := by decide
theorem d_all : (("all" : Str) == ("__debug__" : Str)) = false := by decide
theorem d_bool : (("bool" : Str) == ("__debug__" : Str)) = false := by decide
theorem d_common_divisor : (("common_divisor" : Str) == ("__debug__" : Str)) = false := by decide
theorem d_fraction_read : (("fraction_read" : Str) == ("__debug__" : Str)) = false := by decide
theorem d_fraction_written : (("fraction_written" : Str) == ("__debug__" : Str)) = false := by decide
theorem d_int : (("int" : Str) == ("__debug__" : Str)) = false := by decide
theorem d_is_plain_figures : (("is_plain_figures" : Str) == ("__debug__" : Str)) = false := by decide
theorem d_isinstance : (("isinstance" : Str) == ("__debug__" : Str)) = false := by decide
theorem d_len : (("len" : Str) == ("__debug__" : Str)) = false := by decide
theorem d_number_read : (("number_read" : Str) == ("__debug__" : Str)) = false := by decide
theorem d_number_written : (("number_written" : Str) == ("__debug__" : Str)) = false := by decide
theorem d_str : (("str" : Str) == ("__debug__" : Str)) = false := by decide
theorem d_tuple : (("tuple" : Str) == ("__debug__" : Str)) = false := by decide
theorem b_abs : bootBuiltins "abs" = some (.builtin "abs") := by rfl
theorem m_abs : ("abs" : Str) ≠ "__name__" := by decide
theorem b_all : bootBuiltins "all" = some (.builtin "all") := by rfl
theorem m_all : ("all" : Str) ≠ "__name__" := by decide
theorem b_bool : bootBuiltins "bool" = some (.type "bool") := by rfl
theorem m_bool : ("bool" : Str) ≠ "__name__" := by decide
theorem b_int : bootBuiltins "int" = some (.type "int") := by rfl
theorem m_int : ("int" : Str) ≠ "__name__" := by decide
theorem b_isinstance : bootBuiltins "isinstance" = some (.builtin "isinstance") := by rfl
theorem m_isinstance : ("isinstance" : Str) ≠ "__name__" := by decide
theorem b_len : bootBuiltins "len" = some (.builtin "len") := by rfl
theorem m_len : ("len" : Str) ≠ "__name__" := by decide
theorem b_str : bootBuiltins "str" = some (.type "str") := by rfl
theorem m_str : ("str" : Str) ≠ "__name__" := by decide
theorem b_tuple : bootBuiltins "tuple" = some (.type "tuple") := by rfl
theorem m_tuple : ("tuple" : Str) ≠ "__name__" := by decide
abbrev s_common_divisor : Stmt := top 7
theorem sc_common_divisor : FnScope ["one", "other", "great", "small", "rest"] ["one", "other"] (defScope s_common_divisor) := ⟨rfl, rfl, rfl, by decide +kernel, rfl, by decide +kernel, by decide +kernel⟩
section
variable {CX : CXT} {P : Program} {w : World} {K : PySem.W.Frag} {mg : Str → Option Value} {base : Heap} {f : Addr} {cdv : Value} {A : Around} {outer : List Env} {s : Shared} {H : Hp} {E : XK} {xe : Value → Shared → Prop}
theorem v_common_divisor_0 {pos : Pos} : QE ((cxOf CX P w K mg base ["one", "other", "great", "small", "rest"] "common_divisor" (defScope s_common_divisor) f cdv A outer s H E).wish xe) (.Name "one" pos) (tVar 0) := ⟨pe_var rfl (Or.inl rfl)⟩
theorem n_common_divisor_0 {pos : Pos} : QG ((cxOf CX P w K mg base ["one", "other", "great", "small", "rest"] "common_divisor" (defScope s_common_divisor) f cdv A outer s H E).wish xe) (.Name "one" pos) (gName 0) := ⟨pg_name sc_common_divisor.nd rfl (Or.inl rfl)⟩
theorem a_common_divisor_0 {e : Expr} {te : TE} {pos pos2 : Pos} (he : QE ((cxOf CX P w K mg base ["one", "other", "great", "small", "rest"] "common_divisor" (defScope s_common_divisor) f cdv A outer s H E).wish xe) e te) (hs : swapsWith e (some (.Name "one" pos2)) pos.line ((cxOf CX P w K mg base ["one", "other", "great", "small", "rest"] "common_divisor" (defScope s_common_divisor) f cdv A outer s H E).wish xe).env = pure false := by rfl) : QS ((cxOf CX P w K mg base ["one", "other", "great", "small", "rest"] "common_divisor" (defScope s_common_divisor) f cdv A outer s H E).wish xe) (.Assign [.Name "one" pos2] e pos) (tAsg te (gName 0)) := ⟨ps_set sc_common_divisor.nd rfl (Or.inl rfl) he.p hs⟩
theorem v_common_divisor_1 {pos : Pos} : QE ((cxOf CX P w K mg base ["one", "other", "great", "small", "rest"] "common_divisor" (defScope s_common_divisor) f cdv A outer s H E).wish xe) (.Name "other" pos) (tVar 1) := ⟨pe_var rfl (Or.inl rfl)⟩
theorem n_common_divisor_1 {pos : Pos} : QG ((cxOf CX P w K mg base ["one", "other", "great", "small", "rest"] "common_divisor" (defScope s_common_divisor) f cdv A outer s H E).wish xe) (.Name "other" pos) (gName 1) := ⟨pg_name sc_common_divisor.nd rfl (Or.inl rfl)⟩
theorem a_common_divisor_1 {e : Expr} {te : TE} {pos pos2 : Pos} (he : QE ((cxOf CX P w K mg base ["one", "other", "great", "small", "rest"] "common_divisor" (defScope s_common_divisor) f cdv A outer s H E).wish xe) e te) (hs : swapsWith e (some (.Name "other" pos2)) pos.line ((cxOf CX P w K mg base ["one", "other", "great", "small", "rest"] "common_divisor" (defScope s_common_divisor) f cdv A outer s H E).wish xe).env = pure false := by rfl) : QS ((cxOf CX P w K mg base ["one", "other", "great", "small", "rest"] "common_divisor" (defScope s_common_divisor) f cdv A outer s H E).wish xe) (.Assign [.Name "other" pos2] e pos) (tAsg te (gName 1)) := ⟨ps_set sc_common_divisor.nd rfl (Or.inl rfl) he.p hs⟩
theorem v_common_divisor_2 {pos : Pos} : QE ((cxOf CX P w K mg base ["one", "other", "great", "small", "rest"] "common_divisor" (defScope s_common_divisor) f cdv A outer s H E).wish xe) (.Name "great" pos) (tVar 2) := ⟨pe_var rfl (Or.inl rfl)⟩
theorem n_common_divisor_2 {pos : Pos} : QG ((cxOf CX P w K mg base ["one", "other", "great", "small", "rest"] "common_divisor" (defScope s_common_divisor) f cdv A outer s H E).wish xe) (.Name "great" pos) (gName 2) := ⟨pg_name sc_common_divisor.nd rfl (Or.inl rfl)⟩
theorem a_common_divisor_2 {e : Expr} {te : TE} {pos pos2 : Pos} (he : QE ((cxOf CX P w K mg base ["one", "other", "great", "small", "rest"] "common_divisor" (defScope s_common_divisor) f cdv A outer s H E).wish xe) e te) (hs : swapsWith e (some (.Name "great" pos2)) pos.line ((cxOf CX P w K mg base ["one", "other", "great", "small", "rest"] "common_divisor" (defScope s_common_divisor) f cdv A outer s H E).wish xe).env = pure false := by rfl) : QS ((cxOf CX P w K mg base ["one", "other", "great", "small", "rest"] "common_divisor" (defScope s_common_divisor) f cdv A outer s H E).wish xe) (.Assign [.Name "great" pos2] e pos) (tAsg te (gName 2)) := ⟨ps_set sc_common_divisor.nd rfl (Or.inl rfl) he.p hs⟩
theorem v_common_divisor_3 {pos : Pos} : QE ((cxOf CX P w K mg base ["one", "other", "great", "small", "rest"] "common_divisor" (defScope s_common_divisor) f cdv A outer s H E).wish xe) (.Name "small" pos) (tVar 3) := ⟨pe_var rfl (Or.inl rfl)⟩
theorem n_common_divisor_3 {pos : Pos} : QG ((cxOf CX P w K mg base ["one", "other", "great", "small", "rest"] "common_divisor" (defScope s_common_divisor) f cdv A outer s H E).wish xe) (.Name "small" pos) (gName 3) := ⟨pg_name sc_common_divisor.nd rfl (Or.inl rfl)⟩
theorem a_common_divisor_3 {e : Expr} {te : TE} {pos pos2 : Pos} (he : QE ((cxOf CX P w K mg base ["one", "other", "great", "small", "rest"] "common_divisor" (defScope s_common_divisor) f cdv A outer s H E).wish xe) e te) (hs : swapsWith e (some (.Name "small" pos2)) pos.line ((cxOf CX P w K mg base ["one", "other", "great", "small", "rest"] "common_divisor" (defScope s_common_divisor) f cdv A outer s H E).wish xe).env = pure false := by rfl) : QS ((cxOf CX P w K mg base ["one", "other", "great", "small", "rest"] "common_divisor" (defScope s_common_divisor) f cdv A outer s H E).wish xe) (.Assign [.Name "small" pos2] e pos) (tAsg te (gName 3)) := ⟨ps_set sc_common_divisor.nd rfl (Or.inl rfl) he.p hs⟩
theorem v_common_divisor_4 {pos : Pos} : QE ((cxOf CX P w K mg base ["one", "other", "great", "small", "rest"] "common_divisor" (defScope s_common_divisor) f cdv A outer s H E).wish xe) (.Name "rest" pos) (tVar 4) := ⟨pe_var rfl (Or.inl rfl)⟩
theorem n_common_divisor_4 {pos : Pos} : QG ((cxOf CX P w K mg base ["one", "other", "great", "small", "rest"] "common_divisor" (defScope s_common_divisor) f cdv A outer s H E).wish xe) (.Name "rest" pos) (gName 4) := ⟨pg_name sc_common_divisor.nd rfl (Or.inl rfl)⟩
theorem a_common_divisor_4 {e : Expr} {te : TE} {pos pos2 : Pos} (he : QE ((cxOf CX P w K mg base ["one", "other", "great", "small", "rest"] "common_divisor" (defScope s_common_divisor) f cdv A outer s H E).wish xe) e te) (hs : swapsWith e (some (.Name "rest" pos2)) pos.line ((cxOf CX P w K mg base ["one", "other", "great", "small", "rest"] "common_divisor" (defScope s_common_divisor) f cdv A outer s H E).wish xe).env = pure false := by rfl) : QS ((cxOf CX P w K mg base ["one", "other", "great", "small", "rest"] "common_divisor" (defScope s_common_divisor) f cdv A outer s H E).wish xe) (.Assign [.Name "rest" pos2] e pos) (tAsg te (gName 4)) := ⟨ps_set sc_common_divisor.nd rfl (Or.inl rfl) he.p hs⟩
theorem gl_common_divisor_abs : Gl ((cxOf CX P w K mg base ["one", "other", "great", "small", "rest"] "common_divisor" (defScope s_common_divisor) f cdv A outer s H E).wish xe) "abs" := rfl
end
abbrev s_number_written : Stmt := top 8
theorem sc_number_written : FnScope ["number", "block", "rest", "parts"] ["number"] (defScope s_number_written) := ⟨rfl, rfl, rfl, by decide +kernel, rfl, by decide +kernel, by decide +kernel⟩
section
variable {CX : CXT} {P : Program} {w : World} {K : PySem.W.Frag} {mg : Str → Option Value} {base : Heap} {f : Addr} {cdv : Value} {A : Around} {outer : List Env} {s : Shared} {H : Hp} {E : XK} {xe : Value → Shared → Prop}
theorem v_number_written_0 {pos : Pos} : QE ((cxOf CX P w K mg base ["number", "block", "rest", "parts"] "number_written" (defScope s_number_written) f cdv A outer s H E).wish xe) (.Name "number" pos) (tVar 0) := ⟨pe_var rfl (Or.inl rfl)⟩
theorem n_number_written_0 {pos : Pos} : QG ((cxOf CX P w K mg base ["number", "block", "rest", "parts"] "number_written" (defScope s_number_written) f cdv A outer s H E).wish xe) (.Name "number" pos) (gName 0) := ⟨pg_name sc_number_written.nd rfl (Or.inl rfl)⟩
theorem a_number_written_0 {e : Expr} {te : TE} {pos pos2 : Pos} (he : QE ((cxOf CX P w K mg base ["number", "block", "rest", "parts"] "number_written" (defScope s_number_written) f cdv A outer s H E).wish xe) e te) (hs : swapsWith e (some (.Name "number" pos2)) pos.line ((cxOf CX P w K mg base ["number", "block", "rest", "parts"] "number_written" (defScope s_number_written) f cdv A outer s H E).wish xe).env = pure false := by rfl) : QS ((cxOf CX P w K mg base ["number", "block", "rest", "parts"] "number_written" (defScope s_number_written) f cdv A outer s H E).wish xe) (.Assign [.Name "number" pos2] e pos) (tAsg te (gName 0)) := ⟨ps_set sc_number_written.nd rfl (Or.inl rfl) he.p hs⟩
theorem v_number_written_1 {pos : Pos} : QE ((cxOf CX P w K mg base ["number", "block", "rest", "parts"] "number_written" (defScope s_number_written) f cdv A outer s H E).wish xe) (.Name "block" pos) (tVar 1) := ⟨pe_var rfl (Or.inl rfl)⟩
theorem n_number_written_1 {pos : Pos} : QG ((cxOf CX P w K mg base ["number", "block", "rest", "parts"] "number_written" (defScope s_number_written) f cdv A outer s H E).wish xe) (.Name "block" pos) (gName 1) := ⟨pg_name sc_number_written.nd rfl (Or.inl rfl)⟩
theorem a_number_written_1 {e : Expr} {te : TE} {pos pos2 : Pos} (he : QE ((cxOf CX P w K mg base ["number", "block", "rest", "parts"] "number_written" (defScope s_number_written) f cdv A outer s H E).wish xe) e te) (hs : swapsWith e (some (.Name "block" pos2)) pos.line ((cxOf CX P w K mg base ["number", "block", "rest", "parts"] "number_written" (defScope s_number_written) f cdv A outer s H E).wish xe).env = pure false := by rfl) : QS ((cxOf CX P w K mg base ["number", "block", "rest", "parts"] "number_written" (defScope s_number_written) f cdv A outer s H E).wish xe) (.Assign [.Name "block" pos2] e pos) (tAsg te (gName 1)) := ⟨ps_set sc_number_written.nd rfl (Or.inl rfl) he.p hs⟩
theorem v_number_written_2 {pos : Pos} : QE ((cxOf CX P w K mg base ["number", "block", "rest", "parts"] "number_written" (defScope s_number_written) f cdv A outer s H E).wish xe) (.Name "rest" pos) (tVar 2) := ⟨pe_var rfl (Or.inl rfl)⟩
theorem n_number_written_2 {pos : Pos} : QG ((cxOf CX P w K mg base ["number", "block", "rest", "parts"] "number_written" (defScope s_number_written) f cdv A outer s H E).wish xe) (.Name "rest" pos) (gName 2) := ⟨pg_name sc_number_written.nd rfl (Or.inl rfl)⟩
theorem a_number_written_2 {e : Expr} {te : TE} {pos pos2 : Pos} (he : QE ((cxOf CX P w K mg base ["number", "block", "rest", "parts"] "number_written" (defScope s_number_written) f cdv A outer s H E).wish xe) e te) (hs : swapsWith e (some (.Name "rest" pos2)) pos.line ((cxOf CX P w K mg base ["number", "block", "rest", "parts"] "number_written" (defScope s_number_written) f cdv A outer s H E).wish xe).env = pure false := by rfl) : QS ((cxOf CX P w K mg base ["number", "block", "rest", "parts"] "number_written" (defScope s_number_written) f cdv A outer s H E).wish xe) (.Assign [.Name "rest" pos2] e pos) (tAsg te (gName 2)) := ⟨ps_set sc_number_written.nd rfl (Or.inl rfl) he.p hs⟩
theorem v_number_written_3 {pos : Pos} : QE ((cxOf CX P w K mg base ["number", "block", "rest", "parts"] "number_written" (defScope s_number_written) f cdv A outer s H E).wish xe) (.Name "parts" pos) (tVar 3) := ⟨pe_var rfl (Or.inl rfl)⟩
theorem n_number_written_3 {pos : Pos} : QG ((cxOf CX P w K mg base ["number", "block", "rest", "parts"] "number_written" (defScope s_number_written) f cdv A outer s H E).wish xe) (.Name "parts" pos) (gName 3) := ⟨pg_name sc_number_written.nd rfl (Or.inl rfl)⟩
theorem a_number_written_3 {e : Expr} {te : TE} {pos pos2 : Pos} (he : QE ((cxOf CX P w K mg base ["number", "block", "rest", "parts"] "number_written" (defScope s_number_written) f cdv A outer s H E).wish xe) e te) (hs : swapsWith e (some (.Name "parts" pos2)) pos.line ((cxOf CX P w K mg base ["number", "block", "rest", "parts"] "number_written" (defScope s_number_written) f cdv A outer s H E).wish xe).env = pure false := by rfl) : QS ((cxOf CX P w K mg base ["number", "block", "rest", "parts"] "number_written" (defScope s_number_written) f cdv A outer s H E).wish xe) (.Assign [.Name "parts" pos2] e pos) (tAsg te (gName 3)) := ⟨ps_set sc_number_written.nd rfl (Or.inl rfl) he.p hs⟩
theorem gl_number_written_BLOCK_FIGURES : Gl ((cxOf CX P w K mg base ["number", "block", "rest", "parts"] "number_written" (defScope s_number_written) f cdv A outer s H E).wish xe) "BLOCK_FIGURES" := rfl
theorem gl_number_written_abs : Gl ((cxOf CX P w K mg base ["number", "block", "rest", "parts"] "number_written" (defScope s_number_written) f cdv A outer s H E).wish xe) "abs" := rfl
theorem gl_number_written_str : Gl ((cxOf CX P w K mg base ["number", "block", "rest", "parts"] "number_written" (defScope s_number_written) f cdv A outer s H E).wish xe) "str" := rfl
end
abbrev s_fraction_written : Stmt := top 9
theorem sc_fraction_written : FnScope ["fraction", "top", "bottom"] ["fraction"] (defScope s_fraction_written) := ⟨rfl, rfl, rfl, by decide +kernel, rfl, by decide +kernel, by decide +kernel⟩
section
variable {CX : CXT} {P : Program} {w : World} {K : PySem.W.Frag} {mg : Str → Option Value} {base : Heap} {f : Addr} {cdv : Value} {A : Around} {outer : List Env} {s : Shared} {H : Hp} {E : XK} {xe : Value → Shared → Prop}
theorem v_fraction_written_0 {pos : Pos} : QE ((cxOf CX P w K mg base ["fraction", "top", "bottom"] "fraction_written" (defScope s_fraction_written) f cdv A outer s H E).wish xe) (.Name "fraction" pos) (tVar 0) := ⟨pe_var rfl (Or.inl rfl)⟩
theorem n_fraction_written_0 {pos : Pos} : QG ((cxOf CX P w K mg base ["fraction", "top", "bottom"] "fraction_written" (defScope s_fraction_written) f cdv A outer s H E).wish xe) (.Name "fraction" pos) (gName 0) := ⟨pg_name sc_fraction_written.nd rfl (Or.inl rfl)⟩
theorem a_fraction_written_0 {e : Expr} {te : TE} {pos pos2 : Pos} (he : QE ((cxOf CX P w K mg base ["fraction", "top", "bottom"] "fraction_written" (defScope s_fraction_written) f cdv A outer s H E).wish xe) e te) (hs : swapsWith e (some (.Name "fraction" pos2)) pos.line ((cxOf CX P w K mg base ["fraction", "top", "bottom"] "fraction_written" (defScope s_fraction_written) f cdv A outer s H E).wish xe).env = pure false := by rfl) : QS ((cxOf CX P w K mg base ["fraction", "top", "bottom"] "fraction_written" (defScope s_fraction_written) f cdv A outer s H E).wish xe) (.Assign [.Name "fraction" pos2] e pos) (tAsg te (gName 0)) := ⟨ps_set sc_fraction_written.nd rfl (Or.inl rfl) he.p hs⟩
theorem v_fraction_written_1 {pos : Pos} : QE ((cxOf CX P w K mg base ["fraction", "top", "bottom"] "fraction_written" (defScope s_fraction_written) f cdv A outer s H E).wish xe) (.Name "top" pos) (tVar 1) := ⟨pe_var rfl (Or.inl rfl)⟩
theorem n_fraction_written_1 {pos : Pos} : QG ((cxOf CX P w K mg base ["fraction", "top", "bottom"] "fraction_written" (defScope s_fraction_written) f cdv A outer s H E).wish xe) (.Name "top" pos) (gName 1) := ⟨pg_name sc_fraction_written.nd rfl (Or.inl rfl)⟩
theorem a_fraction_written_1 {e : Expr} {te : TE} {pos pos2 : Pos} (he : QE ((cxOf CX P w K mg base ["fraction", "top", "bottom"] "fraction_written" (defScope s_fraction_written) f cdv A outer s H E).wish xe) e te) (hs : swapsWith e (some (.Name "top" pos2)) pos.line ((cxOf CX P w K mg base ["fraction", "top", "bottom"] "fraction_written" (defScope s_fraction_written) f cdv A outer s H E).wish xe).env = pure false := by rfl) : QS ((cxOf CX P w K mg base ["fraction", "top", "bottom"] "fraction_written" (defScope s_fraction_written) f cdv A outer s H E).wish xe) (.Assign [.Name "top" pos2] e pos) (tAsg te (gName 1)) := ⟨ps_set sc_fraction_written.nd rfl (Or.inl rfl) he.p hs⟩
theorem v_fraction_written_2 {pos : Pos} : QE ((cxOf CX P w K mg base ["fraction", "top", "bottom"] "fraction_written" (defScope s_fraction_written) f cdv A outer s H E).wish xe) (.Name "bottom" pos) (tVar 2) := ⟨pe_var rfl (Or.inl rfl)⟩
theorem n_fraction_written_2 {pos : Pos} : QG ((cxOf CX P w K mg base ["fraction", "top", "bottom"] "fraction_written" (defScope s_fraction_written) f cdv A outer s H E).wish xe) (.Name "bottom" pos) (gName 2) := ⟨pg_name sc_fraction_written.nd rfl (Or.inl rfl)⟩
theorem a_fraction_written_2 {e : Expr} {te : TE} {pos pos2 : Pos} (he : QE ((cxOf CX P w K mg base ["fraction", "top", "bottom"] "fraction_written" (defScope s_fraction_written) f cdv A outer s H E).wish xe) e te) (hs : swapsWith e (some (.Name "bottom" pos2)) pos.line ((cxOf CX P w K mg base ["fraction", "top", "bottom"] "fraction_written" (defScope s_fraction_written) f cdv A outer s H E).wish xe).env = pure false := by rfl) : QS ((cxOf CX P w K mg base ["fraction", "top", "bottom"] "fraction_written" (defScope s_fraction_written) f cdv A outer s H E).wish xe) (.Assign [.Name "bottom" pos2] e pos) (tAsg te (gName 2)) := ⟨ps_set sc_fraction_written.nd rfl (Or.inl rfl) he.p hs⟩
theorem gl_fraction_written_number_written : Gl ((cxOf CX P w K mg base ["fraction", "top", "bottom"] "fraction_written" (defScope s_fraction_written) f cdv A outer s H E).wish xe) "number_written" := rfl
end
abbrev s_is_plain_figures : Stmt := top 10
theorem sc_is_plain_figures : FnScope ["text"] ["text"] (defScope s_is_plain_figures) := ⟨rfl, rfl, rfl, by decide +kernel, rfl, by decide +kernel, by decide +kernel⟩
section
variable {CX : CXT} {P : Program} {w : World} {K : PySem.W.Frag} {mg : Str → Option Value} {base : Heap} {f : Addr} {cdv : Value} {A : Around} {outer : List Env} {s : Shared} {H : Hp} {E : XK} {xe : Value → Shared → Prop}
theorem v_is_plain_figures_0 {pos : Pos} : QE ((cxOf CX P w K mg base ["text"] "is_plain_figures" (defScope s_is_plain_figures) f cdv A outer s H E).wish xe) (.Name "text" pos) (tVar 0) := ⟨pe_var rfl (Or.inl rfl)⟩
theorem n_is_plain_figures_0 {pos : Pos} : QG ((cxOf CX P w K mg base ["text"] "is_plain_figures" (defScope s_is_plain_figures) f cdv A outer s H E).wish xe) (.Name "text" pos) (gName 0) := ⟨pg_name sc_is_plain_figures.nd rfl (Or.inl rfl)⟩
theorem a_is_plain_figures_0 {e : Expr} {te : TE} {pos pos2 : Pos} (he : QE ((cxOf CX P w K mg base ["text"] "is_plain_figures" (defScope s_is_plain_figures) f cdv A outer s H E).wish xe) e te) (hs : swapsWith e (some (.Name "text" pos2)) pos.line ((cxOf CX P w K mg base ["text"] "is_plain_figures" (defScope s_is_plain_figures) f cdv A outer s H E).wish xe).env = pure false := by rfl) : QS ((cxOf CX P w K mg base ["text"] "is_plain_figures" (defScope s_is_plain_figures) f cdv A outer s H E).wish xe) (.Assign [.Name "text" pos2] e pos) (tAsg te (gName 0)) := ⟨ps_set sc_is_plain_figures.nd rfl (Or.inl rfl) he.p hs⟩
theorem gl_is_plain_figures_MOST_FIGURES : Gl ((cxOf CX P w K mg base ["text"] "is_plain_figures" (defScope s_is_plain_figures) f cdv A outer s H E).wish xe) "MOST_FIGURES" := rfl
theorem gl_is_plain_figures_all : Gl ((cxOf CX P w K mg base ["text"] "is_plain_figures" (defScope s_is_plain_figures) f cdv A outer s H E).wish xe) "all" := rfl
theorem gl_is_plain_figures_len : Gl ((cxOf CX P w K mg base ["text"] "is_plain_figures" (defScope s_is_plain_figures) f cdv A outer s H E).wish xe) "len" := rfl
end
abbrev s_number_read : Stmt := top 11
theorem sc_number_read : FnScope ["text", "figures"] ["text"] (defScope s_number_read) := ⟨rfl, rfl, rfl, by decide +kernel, rfl, by decide +kernel, by decide +kernel⟩
section
variable {CX : CXT} {P : Program} {w : World} {K : PySem.W.Frag} {mg : Str → Option Value} {base : Heap} {f : Addr} {cdv : Value} {A : Around} {outer : List Env} {s : Shared} {H : Hp} {E : XK} {xe : Value → Shared → Prop}
theorem v_number_read_0 {pos : Pos} : QE ((cxOf CX P w K mg base ["text", "figures"] "number_read" (defScope s_number_read) f cdv A outer s H E).wish xe) (.Name "text" pos) (tVar 0) := ⟨pe_var rfl (Or.inl rfl)⟩
theorem n_number_read_0 {pos : Pos} : QG ((cxOf CX P w K mg base ["text", "figures"] "number_read" (defScope s_number_read) f cdv A outer s H E).wish xe) (.Name "text" pos) (gName 0) := ⟨pg_name sc_number_read.nd rfl (Or.inl rfl)⟩
theorem a_number_read_0 {e : Expr} {te : TE} {pos pos2 : Pos} (he : QE ((cxOf CX P w K mg base ["text", "figures"] "number_read" (defScope s_number_read) f cdv A outer s H E).wish xe) e te) (hs : swapsWith e (some (.Name "text" pos2)) pos.line ((cxOf CX P w K mg base ["text", "figures"] "number_read" (defScope s_number_read) f cdv A outer s H E).wish xe).env = pure false := by rfl) : QS ((cxOf CX P w K mg base ["text", "figures"] "number_read" (defScope s_number_read) f cdv A outer s H E).wish xe) (.Assign [.Name "text" pos2] e pos) (tAsg te (gName 0)) := ⟨ps_set sc_number_read.nd rfl (Or.inl rfl) he.p hs⟩
theorem v_number_read_1 {pos : Pos} : QE ((cxOf CX P w K mg base ["text", "figures"] "number_read" (defScope s_number_read) f cdv A outer s H E).wish xe) (.Name "figures" pos) (tVar 1) := ⟨pe_var rfl (Or.inl rfl)⟩
theorem n_number_read_1 {pos : Pos} : QG ((cxOf CX P w K mg base ["text", "figures"] "number_read" (defScope s_number_read) f cdv A outer s H E).wish xe) (.Name "figures" pos) (gName 1) := ⟨pg_name sc_number_read.nd rfl (Or.inl rfl)⟩
theorem a_number_read_1 {e : Expr} {te : TE} {pos pos2 : Pos} (he : QE ((cxOf CX P w K mg base ["text", "figures"] "number_read" (defScope s_number_read) f cdv A outer s H E).wish xe) e te) (hs : swapsWith e (some (.Name "figures" pos2)) pos.line ((cxOf CX P w K mg base ["text", "figures"] "number_read" (defScope s_number_read) f cdv A outer s H E).wish xe).env = pure false := by rfl) : QS ((cxOf CX P w K mg base ["text", "figures"] "number_read" (defScope s_number_read) f cdv A outer s H E).wish xe) (.Assign [.Name "figures" pos2] e pos) (tAsg te (gName 1)) := ⟨ps_set sc_number_read.nd rfl (Or.inl rfl) he.p hs⟩
theorem gl_number_read_NoText : Gl ((cxOf CX P w K mg base ["text", "figures"] "number_read" (defScope s_number_read) f cdv A outer s H E).wish xe) "NoText" := rfl
theorem gl_number_read_int : Gl ((cxOf CX P w K mg base ["text", "figures"] "number_read" (defScope s_number_read) f cdv A outer s H E).wish xe) "int" := rfl
theorem gl_number_read_is_plain_figures : Gl ((cxOf CX P w K mg base ["text", "figures"] "number_read" (defScope s_number_read) f cdv A outer s H E).wish xe) "is_plain_figures" := rfl
end
abbrev s_fraction_read : Stmt := top 12
theorem sc_fraction_read : FnScope ["text", "parts", "top", "bottom"] ["text"] (defScope s_fraction_read) := ⟨rfl, rfl, rfl, by decide +kernel, rfl, by decide +kernel, by decide +kernel⟩
section
variable {CX : CXT} {P : Program} {w : World} {K : PySem.W.Frag} {mg : Str → Option Value} {base : Heap} {f : Addr} {cdv : Value} {A : Around} {outer : List Env} {s : Shared} {H : Hp} {E : XK} {xe : Value → Shared → Prop}
theorem v_fraction_read_0 {pos : Pos} : QE ((cxOf CX P w K mg base ["text", "parts", "top", "bottom"] "fraction_read" (defScope s_fraction_read) f cdv A outer s H E).wish xe) (.Name "text" pos) (tVar 0) := ⟨pe_var rfl (Or.inl rfl)⟩
theorem n_fraction_read_0 {pos : Pos} : QG ((cxOf CX P w K mg base ["text", "parts", "top", "bottom"] "fraction_read" (defScope s_fraction_read) f cdv A outer s H E).wish xe) (.Name "text" pos) (gName 0) := ⟨pg_name sc_fraction_read.nd rfl (Or.inl rfl)⟩
theorem a_fraction_read_0 {e : Expr} {te : TE} {pos pos2 : Pos} (he : QE ((cxOf CX P w K mg base ["text", "parts", "top", "bottom"] "fraction_read" (defScope s_fraction_read) f cdv A outer s H E).wish xe) e te) (hs : swapsWith e (some (.Name "text" pos2)) pos.line ((cxOf CX P w K mg base ["text", "parts", "top", "bottom"] "fraction_read" (defScope s_fraction_read) f cdv A outer s H E).wish xe).env = pure false := by rfl) : QS ((cxOf CX P w K mg base ["text", "parts", "top", "bottom"] "fraction_read" (defScope s_fraction_read) f cdv A outer s H E).wish xe) (.Assign [.Name "text" pos2] e pos) (tAsg te (gName 0)) := ⟨ps_set sc_fraction_read.nd rfl (Or.inl rfl) he.p hs⟩
theorem v_fraction_read_1 {pos : Pos} : QE ((cxOf CX P w K mg base ["text", "parts", "top", "bottom"] "fraction_read" (defScope s_fraction_read) f cdv A outer s H E).wish xe) (.Name "parts" pos) (tVar 1) := ⟨pe_var rfl (Or.inl rfl)⟩
theorem n_fraction_read_1 {pos : Pos} : QG ((cxOf CX P w K mg base ["text", "parts", "top", "bottom"] "fraction_read" (defScope s_fraction_read) f cdv A outer s H E).wish xe) (.Name "parts" pos) (gName 1) := ⟨pg_name sc_fraction_read.nd rfl (Or.inl rfl)⟩
theorem a_fraction_read_1 {e : Expr} {te : TE} {pos pos2 : Pos} (he : QE ((cxOf CX P w K mg base ["text", "parts", "top", "bottom"] "fraction_read" (defScope s_fraction_read) f cdv A outer s H E).wish xe) e te) (hs : swapsWith e (some (.Name "parts" pos2)) pos.line ((cxOf CX P w K mg base ["text", "parts", "top", "bottom"] "fraction_read" (defScope s_fraction_read) f cdv A outer s H E).wish xe).env = pure false := by rfl) : QS ((cxOf CX P w K mg base ["text", "parts", "top", "bottom"] "fraction_read" (defScope s_fraction_read) f cdv A outer s H E).wish xe) (.Assign [.Name "parts" pos2] e pos) (tAsg te (gName 1)) := ⟨ps_set sc_fraction_read.nd rfl (Or.inl rfl) he.p hs⟩
theorem v_fraction_read_2 {pos : Pos} : QE ((cxOf CX P w K mg base ["text", "parts", "top", "bottom"] "fraction_read" (defScope s_fraction_read) f cdv A outer s H E).wish xe) (.Name "top" pos) (tVar 2) := ⟨pe_var rfl (Or.inl rfl)⟩
theorem n_fraction_read_2 {pos : Pos} : QG ((cxOf CX P w K mg base ["text", "parts", "top", "bottom"] "fraction_read" (defScope s_fraction_read) f cdv A outer s H E).wish xe) (.Name "top" pos) (gName 2) := ⟨pg_name sc_fraction_read.nd rfl (Or.inl rfl)⟩
theorem a_fraction_read_2 {e : Expr} {te : TE} {pos pos2 : Pos} (he : QE ((cxOf CX P w K mg base ["text", "parts", "top", "bottom"] "fraction_read" (defScope s_fraction_read) f cdv A outer s H E).wish xe) e te) (hs : swapsWith e (some (.Name "top" pos2)) pos.line ((cxOf CX P w K mg base ["text", "parts", "top", "bottom"] "fraction_read" (defScope s_fraction_read) f cdv A outer s H E).wish xe).env = pure false := by rfl) : QS ((cxOf CX P w K mg base ["text", "parts", "top", "bottom"] "fraction_read" (defScope s_fraction_read) f cdv A outer s H E).wish xe) (.Assign [.Name "top" pos2] e pos) (tAsg te (gName 2)) := ⟨ps_set sc_fraction_read.nd rfl (Or.inl rfl) he.p hs⟩
theorem v_fraction_read_3 {pos : Pos} : QE ((cxOf CX P w K mg base ["text", "parts", "top", "bottom"] "fraction_read" (defScope s_fraction_read) f cdv A outer s H E).wish xe) (.Name "bottom" pos) (tVar 3) := ⟨pe_var rfl (Or.inl rfl)⟩
theorem n_fraction_read_3 {pos : Pos} : QG ((cxOf CX P w K mg base ["text", "parts", "top", "bottom"] "fraction_read" (defScope s_fraction_read) f cdv A outer s H E).wish xe) (.Name "bottom" pos) (gName 3) := ⟨pg_name sc_fraction_read.nd rfl (Or.inl rfl)⟩
theorem a_fraction_read_3 {e : Expr} {te : TE} {pos pos2 : Pos} (he : QE ((cxOf CX P w K mg base ["text", "parts", "top", "bottom"] "fraction_read" (defScope s_fraction_read) f cdv A outer s H E).wish xe) e te) (hs : swapsWith e (some (.Name "bottom" pos2)) pos.line ((cxOf CX P w K mg base ["text", "parts", "top", "bottom"] "fraction_read" (defScope s_fraction_read) f cdv A outer s H E).wish xe).env = pure false := by rfl) : QS ((cxOf CX P w K mg base ["text", "parts", "top", "bottom"] "fraction_read" (defScope s_fraction_read) f cdv A outer s H E).wish xe) (.Assign [.Name "bottom" pos2] e pos) (tAsg te (gName 3)) := ⟨ps_set sc_fraction_read.nd rfl (Or.inl rfl) he.p hs⟩
theorem gl_fraction_read_NoText : Gl ((cxOf CX P w K mg base ["text", "parts", "top", "bottom"] "fraction_read" (defScope s_fraction_read) f cdv A outer s H E).wish xe) "NoText" := rfl
theorem gl_fraction_read_common_divisor : Gl ((cxOf CX P w K mg base ["text", "parts", "top", "bottom"] "fraction_read" (defScope s_fraction_read) f cdv A outer s H E).wish xe) "common_divisor" := rfl
theorem gl_fraction_read_len : Gl ((cxOf CX P w K mg base ["text", "parts", "top", "bottom"] "fraction_read" (defScope s_fraction_read) f cdv A outer s H E).wish xe) "len" := rfl
theorem gl_fraction_read_number_read : Gl ((cxOf CX P w K mg base ["text", "parts", "top", "bottom"] "fraction_read" (defScope s_fraction_read) f cdv A outer s H E).wish xe) "number_read" := rfl
end
abbrev s_law_stir : Stmt := top 14
theorem sc_law_stir : FnScope ["cell", "k", "prime", "left"] ["cell", "k"] (defScope s_law_stir) := ⟨rfl, rfl, rfl, by decide +kernel, rfl, by decide +kernel, by decide +kernel⟩
section
variable {CX : CXT} {P : Program} {w : World} {K : PySem.W.Frag} {mg : Str → Option Value} {base : Heap} {f : Addr} {cdv : Value} {A : Around} {outer : List Env} {s : Shared} {H : Hp} {E : XK} {xe : Value → Shared → Prop}
theorem v_law_stir_0 {pos : Pos} : QE ((cxOf CX P w K mg base ["cell", "k", "prime", "left"] "_law_stir" (defScope s_law_stir) f cdv A outer s H E).wish xe) (.Name "cell" pos) (tVar 0) := ⟨pe_var rfl (Or.inl rfl)⟩
theorem n_law_stir_0 {pos : Pos} : QG ((cxOf CX P w K mg base ["cell", "k", "prime", "left"] "_law_stir" (defScope s_law_stir) f cdv A outer s H E).wish xe) (.Name "cell" pos) (gName 0) := ⟨pg_name sc_law_stir.nd rfl (Or.inl rfl)⟩
theorem a_law_stir_0 {e : Expr} {te : TE} {pos pos2 : Pos} (he : QE ((cxOf CX P w K mg base ["cell", "k", "prime", "left"] "_law_stir" (defScope s_law_stir) f cdv A outer s H E).wish xe) e te) (hs : swapsWith e (some (.Name "cell" pos2)) pos.line ((cxOf CX P w K mg base ["cell", "k", "prime", "left"] "_law_stir" (defScope s_law_stir) f cdv A outer s H E).wish xe).env = pure false := by rfl) : QS ((cxOf CX P w K mg base ["cell", "k", "prime", "left"] "_law_stir" (defScope s_law_stir) f cdv A outer s H E).wish xe) (.Assign [.Name "cell" pos2] e pos) (tAsg te (gName 0)) := ⟨ps_set sc_law_stir.nd rfl (Or.inl rfl) he.p hs⟩
theorem v_law_stir_1 {pos : Pos} : QE ((cxOf CX P w K mg base ["cell", "k", "prime", "left"] "_law_stir" (defScope s_law_stir) f cdv A outer s H E).wish xe) (.Name "k" pos) (tVar 1) := ⟨pe_var rfl (Or.inl rfl)⟩
theorem n_law_stir_1 {pos : Pos} : QG ((cxOf CX P w K mg base ["cell", "k", "prime", "left"] "_law_stir" (defScope s_law_stir) f cdv A outer s H E).wish xe) (.Name "k" pos) (gName 1) := ⟨pg_name sc_law_stir.nd rfl (Or.inl rfl)⟩
theorem a_law_stir_1 {e : Expr} {te : TE} {pos pos2 : Pos} (he : QE ((cxOf CX P w K mg base ["cell", "k", "prime", "left"] "_law_stir" (defScope s_law_stir) f cdv A outer s H E).wish xe) e te) (hs : swapsWith e (some (.Name "k" pos2)) pos.line ((cxOf CX P w K mg base ["cell", "k", "prime", "left"] "_law_stir" (defScope s_law_stir) f cdv A outer s H E).wish xe).env = pure false := by rfl) : QS ((cxOf CX P w K mg base ["cell", "k", "prime", "left"] "_law_stir" (defScope s_law_stir) f cdv A outer s H E).wish xe) (.Assign [.Name "k" pos2] e pos) (tAsg te (gName 1)) := ⟨ps_set sc_law_stir.nd rfl (Or.inl rfl) he.p hs⟩
theorem v_law_stir_2 {pos : Pos} : QE ((cxOf CX P w K mg base ["cell", "k", "prime", "left"] "_law_stir" (defScope s_law_stir) f cdv A outer s H E).wish xe) (.Name "prime" pos) (tVar 2) := ⟨pe_var rfl (Or.inl rfl)⟩
theorem n_law_stir_2 {pos : Pos} : QG ((cxOf CX P w K mg base ["cell", "k", "prime", "left"] "_law_stir" (defScope s_law_stir) f cdv A outer s H E).wish xe) (.Name "prime" pos) (gName 2) := ⟨pg_name sc_law_stir.nd rfl (Or.inl rfl)⟩
theorem a_law_stir_2 {e : Expr} {te : TE} {pos pos2 : Pos} (he : QE ((cxOf CX P w K mg base ["cell", "k", "prime", "left"] "_law_stir" (defScope s_law_stir) f cdv A outer s H E).wish xe) e te) (hs : swapsWith e (some (.Name "prime" pos2)) pos.line ((cxOf CX P w K mg base ["cell", "k", "prime", "left"] "_law_stir" (defScope s_law_stir) f cdv A outer s H E).wish xe).env = pure false := by rfl) : QS ((cxOf CX P w K mg base ["cell", "k", "prime", "left"] "_law_stir" (defScope s_law_stir) f cdv A outer s H E).wish xe) (.Assign [.Name "prime" pos2] e pos) (tAsg te (gName 2)) := ⟨ps_set sc_law_stir.nd rfl (Or.inl rfl) he.p hs⟩
theorem v_law_stir_3 {pos : Pos} : QE ((cxOf CX P w K mg base ["cell", "k", "prime", "left"] "_law_stir" (defScope s_law_stir) f cdv A outer s H E).wish xe) (.Name "left" pos) (tVar 3) := ⟨pe_var rfl (Or.inl rfl)⟩
theorem n_law_stir_3 {pos : Pos} : QG ((cxOf CX P w K mg base ["cell", "k", "prime", "left"] "_law_stir" (defScope s_law_stir) f cdv A outer s H E).wish xe) (.Name "left" pos) (gName 3) := ⟨pg_name sc_law_stir.nd rfl (Or.inl rfl)⟩
theorem a_law_stir_3 {e : Expr} {te : TE} {pos pos2 : Pos} (he : QE ((cxOf CX P w K mg base ["cell", "k", "prime", "left"] "_law_stir" (defScope s_law_stir) f cdv A outer s H E).wish xe) e te) (hs : swapsWith e (some (.Name "left" pos2)) pos.line ((cxOf CX P w K mg base ["cell", "k", "prime", "left"] "_law_stir" (defScope s_law_stir) f cdv A outer s H E).wish xe).env = pure false := by rfl) : QS ((cxOf CX P w K mg base ["cell", "k", "prime", "left"] "_law_stir" (defScope s_law_stir) f cdv A outer s H E).wish xe) (.Assign [.Name "left" pos2] e pos) (tAsg te (gName 3)) := ⟨ps_set sc_law_stir.nd rfl (Or.inl rfl) he.p hs⟩
end
abbrev s_law_measure : Stmt := top 15
theorem sc_law_measure : FnScope ["one", "other"] ["one", "other"] (defScope s_law_measure) := ⟨rfl, rfl, rfl, by decide +kernel, rfl, by decide +kernel, by decide +kernel⟩
section
variable {CX : CXT} {P : Program} {w : World} {K : PySem.W.Frag} {mg : Str → Option Value} {base : Heap} {f : Addr} {cdv : Value} {A : Around} {outer : List Env} {s : Shared} {H : Hp} {E : XK} {xe : Value → Shared → Prop}
theorem v_law_measure_0 {pos : Pos} : QE ((cxOf CX P w K mg base ["one", "other"] "_law_measure" (defScope s_law_measure) f cdv A outer s H E).wish xe) (.Name "one" pos) (tVar 0) := ⟨pe_var rfl (Or.inl rfl)⟩
theorem n_law_measure_0 {pos : Pos} : QG ((cxOf CX P w K mg base ["one", "other"] "_law_measure" (defScope s_law_measure) f cdv A outer s H E).wish xe) (.Name "one" pos) (gName 0) := ⟨pg_name sc_law_measure.nd rfl (Or.inl rfl)⟩
theorem a_law_measure_0 {e : Expr} {te : TE} {pos pos2 : Pos} (he : QE ((cxOf CX P w K mg base ["one", "other"] "_law_measure" (defScope s_law_measure) f cdv A outer s H E).wish xe) e te) (hs : swapsWith e (some (.Name "one" pos2)) pos.line ((cxOf CX P w K mg base ["one", "other"] "_law_measure" (defScope s_law_measure) f cdv A outer s H E).wish xe).env = pure false := by rfl) : QS ((cxOf CX P w K mg base ["one", "other"] "_law_measure" (defScope s_law_measure) f cdv A outer s H E).wish xe) (.Assign [.Name "one" pos2] e pos) (tAsg te (gName 0)) := ⟨ps_set sc_law_measure.nd rfl (Or.inl rfl) he.p hs⟩
theorem v_law_measure_1 {pos : Pos} : QE ((cxOf CX P w K mg base ["one", "other"] "_law_measure" (defScope s_law_measure) f cdv A outer s H E).wish xe) (.Name "other" pos) (tVar 1) := ⟨pe_var rfl (Or.inl rfl)⟩
theorem n_law_measure_1 {pos : Pos} : QG ((cxOf CX P w K mg base ["one", "other"] "_law_measure" (defScope s_law_measure) f cdv A outer s H E).wish xe) (.Name "other" pos) (gName 1) := ⟨pg_name sc_law_measure.nd rfl (Or.inl rfl)⟩
theorem a_law_measure_1 {e : Expr} {te : TE} {pos pos2 : Pos} (he : QE ((cxOf CX P w K mg base ["one", "other"] "_law_measure" (defScope s_law_measure) f cdv A outer s H E).wish xe) e te) (hs : swapsWith e (some (.Name "other" pos2)) pos.line ((cxOf CX P w K mg base ["one", "other"] "_law_measure" (defScope s_law_measure) f cdv A outer s H E).wish xe).env = pure false := by rfl) : QS ((cxOf CX P w K mg base ["one", "other"] "_law_measure" (defScope s_law_measure) f cdv A outer s H E).wish xe) (.Assign [.Name "other" pos2] e pos) (tAsg te (gName 1)) := ⟨ps_set sc_law_measure.nd rfl (Or.inl rfl) he.p hs⟩
theorem gl_law_measure_abs : Gl ((cxOf CX P w K mg base ["one", "other"] "_law_measure" (defScope s_law_measure) f cdv A outer s H E).wish xe) "abs" := rfl
end
abbrev s_law_fraction : Stmt := top 16
theorem sc_law_fraction : FnScope ["cell", "k", "left", "size", "top", "bottom", "part"] ["cell", "k"] (defScope s_law_fraction) := ⟨rfl, rfl, rfl, by decide +kernel, rfl, by decide +kernel, by decide +kernel⟩
section
variable {CX : CXT} {P : Program} {w : World} {K : PySem.W.Frag} {mg : Str → Option Value} {base : Heap} {f : Addr} {cdv : Value} {A : Around} {outer : List Env} {s : Shared} {H : Hp} {E : XK} {xe : Value → Shared → Prop}
theorem v_law_fraction_0 {pos : Pos} : QE ((cxOf CX P w K mg base ["cell", "k", "left", "size", "top", "bottom", "part"] "_law_fraction" (defScope s_law_fraction) f cdv A outer s H E).wish xe) (.Name "cell" pos) (tVar 0) := ⟨pe_var rfl (Or.inl rfl)⟩
theorem n_law_fraction_0 {pos : Pos} : QG ((cxOf CX P w K mg base ["cell", "k", "left", "size", "top", "bottom", "part"] "_law_fraction" (defScope s_law_fraction) f cdv A outer s H E).wish xe) (.Name "cell" pos) (gName 0) := ⟨pg_name sc_law_fraction.nd rfl (Or.inl rfl)⟩
theorem a_law_fraction_0 {e : Expr} {te : TE} {pos pos2 : Pos} (he : QE ((cxOf CX P w K mg base ["cell", "k", "left", "size", "top", "bottom", "part"] "_law_fraction" (defScope s_law_fraction) f cdv A outer s H E).wish xe) e te) (hs : swapsWith e (some (.Name "cell" pos2)) pos.line ((cxOf CX P w K mg base ["cell", "k", "left", "size", "top", "bottom", "part"] "_law_fraction" (defScope s_law_fraction) f cdv A outer s H E).wish xe).env = pure false := by rfl) : QS ((cxOf CX P w K mg base ["cell", "k", "left", "size", "top", "bottom", "part"] "_law_fraction" (defScope s_law_fraction) f cdv A outer s H E).wish xe) (.Assign [.Name "cell" pos2] e pos) (tAsg te (gName 0)) := ⟨ps_set sc_law_fraction.nd rfl (Or.inl rfl) he.p hs⟩
theorem v_law_fraction_1 {pos : Pos} : QE ((cxOf CX P w K mg base ["cell", "k", "left", "size", "top", "bottom", "part"] "_law_fraction" (defScope s_law_fraction) f cdv A outer s H E).wish xe) (.Name "k" pos) (tVar 1) := ⟨pe_var rfl (Or.inl rfl)⟩
theorem n_law_fraction_1 {pos : Pos} : QG ((cxOf CX P w K mg base ["cell", "k", "left", "size", "top", "bottom", "part"] "_law_fraction" (defScope s_law_fraction) f cdv A outer s H E).wish xe) (.Name "k" pos) (gName 1) := ⟨pg_name sc_law_fraction.nd rfl (Or.inl rfl)⟩
theorem a_law_fraction_1 {e : Expr} {te : TE} {pos pos2 : Pos} (he : QE ((cxOf CX P w K mg base ["cell", "k", "left", "size", "top", "bottom", "part"] "_law_fraction" (defScope s_law_fraction) f cdv A outer s H E).wish xe) e te) (hs : swapsWith e (some (.Name "k" pos2)) pos.line ((cxOf CX P w K mg base ["cell", "k", "left", "size", "top", "bottom", "part"] "_law_fraction" (defScope s_law_fraction) f cdv A outer s H E).wish xe).env = pure false := by rfl) : QS ((cxOf CX P w K mg base ["cell", "k", "left", "size", "top", "bottom", "part"] "_law_fraction" (defScope s_law_fraction) f cdv A outer s H E).wish xe) (.Assign [.Name "k" pos2] e pos) (tAsg te (gName 1)) := ⟨ps_set sc_law_fraction.nd rfl (Or.inl rfl) he.p hs⟩
theorem v_law_fraction_2 {pos : Pos} : QE ((cxOf CX P w K mg base ["cell", "k", "left", "size", "top", "bottom", "part"] "_law_fraction" (defScope s_law_fraction) f cdv A outer s H E).wish xe) (.Name "left" pos) (tVar 2) := ⟨pe_var rfl (Or.inl rfl)⟩
theorem n_law_fraction_2 {pos : Pos} : QG ((cxOf CX P w K mg base ["cell", "k", "left", "size", "top", "bottom", "part"] "_law_fraction" (defScope s_law_fraction) f cdv A outer s H E).wish xe) (.Name "left" pos) (gName 2) := ⟨pg_name sc_law_fraction.nd rfl (Or.inl rfl)⟩
theorem a_law_fraction_2 {e : Expr} {te : TE} {pos pos2 : Pos} (he : QE ((cxOf CX P w K mg base ["cell", "k", "left", "size", "top", "bottom", "part"] "_law_fraction" (defScope s_law_fraction) f cdv A outer s H E).wish xe) e te) (hs : swapsWith e (some (.Name "left" pos2)) pos.line ((cxOf CX P w K mg base ["cell", "k", "left", "size", "top", "bottom", "part"] "_law_fraction" (defScope s_law_fraction) f cdv A outer s H E).wish xe).env = pure false := by rfl) : QS ((cxOf CX P w K mg base ["cell", "k", "left", "size", "top", "bottom", "part"] "_law_fraction" (defScope s_law_fraction) f cdv A outer s H E).wish xe) (.Assign [.Name "left" pos2] e pos) (tAsg te (gName 2)) := ⟨ps_set sc_law_fraction.nd rfl (Or.inl rfl) he.p hs⟩
theorem v_law_fraction_3 {pos : Pos} : QE ((cxOf CX P w K mg base ["cell", "k", "left", "size", "top", "bottom", "part"] "_law_fraction" (defScope s_law_fraction) f cdv A outer s H E).wish xe) (.Name "size" pos) (tVar 3) := ⟨pe_var rfl (Or.inl rfl)⟩
theorem n_law_fraction_3 {pos : Pos} : QG ((cxOf CX P w K mg base ["cell", "k", "left", "size", "top", "bottom", "part"] "_law_fraction" (defScope s_law_fraction) f cdv A outer s H E).wish xe) (.Name "size" pos) (gName 3) := ⟨pg_name sc_law_fraction.nd rfl (Or.inl rfl)⟩
theorem a_law_fraction_3 {e : Expr} {te : TE} {pos pos2 : Pos} (he : QE ((cxOf CX P w K mg base ["cell", "k", "left", "size", "top", "bottom", "part"] "_law_fraction" (defScope s_law_fraction) f cdv A outer s H E).wish xe) e te) (hs : swapsWith e (some (.Name "size" pos2)) pos.line ((cxOf CX P w K mg base ["cell", "k", "left", "size", "top", "bottom", "part"] "_law_fraction" (defScope s_law_fraction) f cdv A outer s H E).wish xe).env = pure false := by rfl) : QS ((cxOf CX P w K mg base ["cell", "k", "left", "size", "top", "bottom", "part"] "_law_fraction" (defScope s_law_fraction) f cdv A outer s H E).wish xe) (.Assign [.Name "size" pos2] e pos) (tAsg te (gName 3)) := ⟨ps_set sc_law_fraction.nd rfl (Or.inl rfl) he.p hs⟩
theorem v_law_fraction_4 {pos : Pos} : QE ((cxOf CX P w K mg base ["cell", "k", "left", "size", "top", "bottom", "part"] "_law_fraction" (defScope s_law_fraction) f cdv A outer s H E).wish xe) (.Name "top" pos) (tVar 4) := ⟨pe_var rfl (Or.inl rfl)⟩
theorem n_law_fraction_4 {pos : Pos} : QG ((cxOf CX P w K mg base ["cell", "k", "left", "size", "top", "bottom", "part"] "_law_fraction" (defScope s_law_fraction) f cdv A outer s H E).wish xe) (.Name "top" pos) (gName 4) := ⟨pg_name sc_law_fraction.nd rfl (Or.inl rfl)⟩
theorem a_law_fraction_4 {e : Expr} {te : TE} {pos pos2 : Pos} (he : QE ((cxOf CX P w K mg base ["cell", "k", "left", "size", "top", "bottom", "part"] "_law_fraction" (defScope s_law_fraction) f cdv A outer s H E).wish xe) e te) (hs : swapsWith e (some (.Name "top" pos2)) pos.line ((cxOf CX P w K mg base ["cell", "k", "left", "size", "top", "bottom", "part"] "_law_fraction" (defScope s_law_fraction) f cdv A outer s H E).wish xe).env = pure false := by rfl) : QS ((cxOf CX P w K mg base ["cell", "k", "left", "size", "top", "bottom", "part"] "_law_fraction" (defScope s_law_fraction) f cdv A outer s H E).wish xe) (.Assign [.Name "top" pos2] e pos) (tAsg te (gName 4)) := ⟨ps_set sc_law_fraction.nd rfl (Or.inl rfl) he.p hs⟩
theorem v_law_fraction_5 {pos : Pos} : QE ((cxOf CX P w K mg base ["cell", "k", "left", "size", "top", "bottom", "part"] "_law_fraction" (defScope s_law_fraction) f cdv A outer s H E).wish xe) (.Name "bottom" pos) (tVar 5) := ⟨pe_var rfl (Or.inl rfl)⟩
theorem n_law_fraction_5 {pos : Pos} : QG ((cxOf CX P w K mg base ["cell", "k", "left", "size", "top", "bottom", "part"] "_law_fraction" (defScope s_law_fraction) f cdv A outer s H E).wish xe) (.Name "bottom" pos) (gName 5) := ⟨pg_name sc_law_fraction.nd rfl (Or.inl rfl)⟩
theorem a_law_fraction_5 {e : Expr} {te : TE} {pos pos2 : Pos} (he : QE ((cxOf CX P w K mg base ["cell", "k", "left", "size", "top", "bottom", "part"] "_law_fraction" (defScope s_law_fraction) f cdv A outer s H E).wish xe) e te) (hs : swapsWith e (some (.Name "bottom" pos2)) pos.line ((cxOf CX P w K mg base ["cell", "k", "left", "size", "top", "bottom", "part"] "_law_fraction" (defScope s_law_fraction) f cdv A outer s H E).wish xe).env = pure false := by rfl) : QS ((cxOf CX P w K mg base ["cell", "k", "left", "size", "top", "bottom", "part"] "_law_fraction" (defScope s_law_fraction) f cdv A outer s H E).wish xe) (.Assign [.Name "bottom" pos2] e pos) (tAsg te (gName 5)) := ⟨ps_set sc_law_fraction.nd rfl (Or.inl rfl) he.p hs⟩
theorem v_law_fraction_6 {pos : Pos} : QE ((cxOf CX P w K mg base ["cell", "k", "left", "size", "top", "bottom", "part"] "_law_fraction" (defScope s_law_fraction) f cdv A outer s H E).wish xe) (.Name "part" pos) (tVar 6) := ⟨pe_var rfl (Or.inl rfl)⟩
theorem n_law_fraction_6 {pos : Pos} : QG ((cxOf CX P w K mg base ["cell", "k", "left", "size", "top", "bottom", "part"] "_law_fraction" (defScope s_law_fraction) f cdv A outer s H E).wish xe) (.Name "part" pos) (gName 6) := ⟨pg_name sc_law_fraction.nd rfl (Or.inl rfl)⟩
theorem a_law_fraction_6 {e : Expr} {te : TE} {pos pos2 : Pos} (he : QE ((cxOf CX P w K mg base ["cell", "k", "left", "size", "top", "bottom", "part"] "_law_fraction" (defScope s_law_fraction) f cdv A outer s H E).wish xe) e te) (hs : swapsWith e (some (.Name "part" pos2)) pos.line ((cxOf CX P w K mg base ["cell", "k", "left", "size", "top", "bottom", "part"] "_law_fraction" (defScope s_law_fraction) f cdv A outer s H E).wish xe).env = pure false := by rfl) : QS ((cxOf CX P w K mg base ["cell", "k", "left", "size", "top", "bottom", "part"] "_law_fraction" (defScope s_law_fraction) f cdv A outer s H E).wish xe) (.Assign [.Name "part" pos2] e pos) (tAsg te (gName 6)) := ⟨ps_set sc_law_fraction.nd rfl (Or.inl rfl) he.p hs⟩
theorem gl_law_fraction__law_measure : Gl ((cxOf CX P w K mg base ["cell", "k", "left", "size", "top", "bottom", "part"] "_law_fraction" (defScope s_law_fraction) f cdv A outer s H E).wish xe) "_law_measure" := rfl
theorem gl_law_fraction__law_stir : Gl ((cxOf CX P w K mg base ["cell", "k", "left", "size", "top", "bottom", "part"] "_law_fraction" (defScope s_law_fraction) f cdv A outer s H E).wish xe) "_law_stir" := rfl
end
abbrev s_law_is : Stmt := top 17
theorem sc_law_is : FnScope ["found", "top", "bottom", "number"] ["found", "top", "bottom"] (defScope s_law_is) := ⟨rfl, rfl, rfl, by decide +kernel, rfl, by decide +kernel, by decide +kernel⟩
section
variable {CX : CXT} {P : Program} {w : World} {K : PySem.W.Frag} {mg : Str → Option Value} {base : Heap} {f : Addr} {cdv : Value} {A : Around} {outer : List Env} {s : Shared} {H : Hp} {E : XK} {xe : Value → Shared → Prop}
theorem v_law_is_0 {pos : Pos} : QE ((cxOf CX P w K mg base ["found", "top", "bottom", "number"] "_law_is" (defScope s_law_is) f cdv A outer s H E).wish xe) (.Name "found" pos) (tVar 0) := ⟨pe_var rfl (Or.inl rfl)⟩
theorem n_law_is_0 {pos : Pos} : QG ((cxOf CX P w K mg base ["found", "top", "bottom", "number"] "_law_is" (defScope s_law_is) f cdv A outer s H E).wish xe) (.Name "found" pos) (gName 0) := ⟨pg_name sc_law_is.nd rfl (Or.inl rfl)⟩
theorem a_law_is_0 {e : Expr} {te : TE} {pos pos2 : Pos} (he : QE ((cxOf CX P w K mg base ["found", "top", "bottom", "number"] "_law_is" (defScope s_law_is) f cdv A outer s H E).wish xe) e te) (hs : swapsWith e (some (.Name "found" pos2)) pos.line ((cxOf CX P w K mg base ["found", "top", "bottom", "number"] "_law_is" (defScope s_law_is) f cdv A outer s H E).wish xe).env = pure false := by rfl) : QS ((cxOf CX P w K mg base ["found", "top", "bottom", "number"] "_law_is" (defScope s_law_is) f cdv A outer s H E).wish xe) (.Assign [.Name "found" pos2] e pos) (tAsg te (gName 0)) := ⟨ps_set sc_law_is.nd rfl (Or.inl rfl) he.p hs⟩
theorem v_law_is_1 {pos : Pos} : QE ((cxOf CX P w K mg base ["found", "top", "bottom", "number"] "_law_is" (defScope s_law_is) f cdv A outer s H E).wish xe) (.Name "top" pos) (tVar 1) := ⟨pe_var rfl (Or.inl rfl)⟩
theorem n_law_is_1 {pos : Pos} : QG ((cxOf CX P w K mg base ["found", "top", "bottom", "number"] "_law_is" (defScope s_law_is) f cdv A outer s H E).wish xe) (.Name "top" pos) (gName 1) := ⟨pg_name sc_law_is.nd rfl (Or.inl rfl)⟩
theorem a_law_is_1 {e : Expr} {te : TE} {pos pos2 : Pos} (he : QE ((cxOf CX P w K mg base ["found", "top", "bottom", "number"] "_law_is" (defScope s_law_is) f cdv A outer s H E).wish xe) e te) (hs : swapsWith e (some (.Name "top" pos2)) pos.line ((cxOf CX P w K mg base ["found", "top", "bottom", "number"] "_law_is" (defScope s_law_is) f cdv A outer s H E).wish xe).env = pure false := by rfl) : QS ((cxOf CX P w K mg base ["found", "top", "bottom", "number"] "_law_is" (defScope s_law_is) f cdv A outer s H E).wish xe) (.Assign [.Name "top" pos2] e pos) (tAsg te (gName 1)) := ⟨ps_set sc_law_is.nd rfl (Or.inl rfl) he.p hs⟩
theorem v_law_is_2 {pos : Pos} : QE ((cxOf CX P w K mg base ["found", "top", "bottom", "number"] "_law_is" (defScope s_law_is) f cdv A outer s H E).wish xe) (.Name "bottom" pos) (tVar 2) := ⟨pe_var rfl (Or.inl rfl)⟩
theorem n_law_is_2 {pos : Pos} : QG ((cxOf CX P w K mg base ["found", "top", "bottom", "number"] "_law_is" (defScope s_law_is) f cdv A outer s H E).wish xe) (.Name "bottom" pos) (gName 2) := ⟨pg_name sc_law_is.nd rfl (Or.inl rfl)⟩
theorem a_law_is_2 {e : Expr} {te : TE} {pos pos2 : Pos} (he : QE ((cxOf CX P w K mg base ["found", "top", "bottom", "number"] "_law_is" (defScope s_law_is) f cdv A outer s H E).wish xe) e te) (hs : swapsWith e (some (.Name "bottom" pos2)) pos.line ((cxOf CX P w K mg base ["found", "top", "bottom", "number"] "_law_is" (defScope s_law_is) f cdv A outer s H E).wish xe).env = pure false := by rfl) : QS ((cxOf CX P w K mg base ["found", "top", "bottom", "number"] "_law_is" (defScope s_law_is) f cdv A outer s H E).wish xe) (.Assign [.Name "bottom" pos2] e pos) (tAsg te (gName 2)) := ⟨ps_set sc_law_is.nd rfl (Or.inl rfl) he.p hs⟩
theorem v_law_is_3 {pos : Pos} : QE ((cxOf CX P w K mg base ["found", "top", "bottom", "number"] "_law_is" (defScope s_law_is) f cdv A outer s H E).wish xe) (.Name "number" pos) (tVar 3) := ⟨pe_var rfl (Or.inl rfl)⟩
theorem n_law_is_3 {pos : Pos} : QG ((cxOf CX P w K mg base ["found", "top", "bottom", "number"] "_law_is" (defScope s_law_is) f cdv A outer s H E).wish xe) (.Name "number" pos) (gName 3) := ⟨pg_name sc_law_is.nd rfl (Or.inl rfl)⟩
theorem a_law_is_3 {e : Expr} {te : TE} {pos pos2 : Pos} (he : QE ((cxOf CX P w K mg base ["found", "top", "bottom", "number"] "_law_is" (defScope s_law_is) f cdv A outer s H E).wish xe) e te) (hs : swapsWith e (some (.Name "number" pos2)) pos.line ((cxOf CX P w K mg base ["found", "top", "bottom", "number"] "_law_is" (defScope s_law_is) f cdv A outer s H E).wish xe).env = pure false := by rfl) : QS ((cxOf CX P w K mg base ["found", "top", "bottom", "number"] "_law_is" (defScope s_law_is) f cdv A outer s H E).wish xe) (.Assign [.Name "number" pos2] e pos) (tAsg te (gName 3)) := ⟨ps_set sc_law_is.nd rfl (Or.inl rfl) he.p hs⟩
theorem gl_law_is__law_measure : Gl ((cxOf CX P w K mg base ["found", "top", "bottom", "number"] "_law_is" (defScope s_law_is) f cdv A outer s H E).wish xe) "_law_measure" := rfl
theorem gl_law_is_bool : Gl ((cxOf CX P w K mg base ["found", "top", "bottom", "number"] "_law_is" (defScope s_law_is) f cdv A outer s H E).wish xe) "bool" := rfl
theorem gl_law_is_int : Gl ((cxOf CX P w K mg base ["found", "top", "bottom", "number"] "_law_is" (defScope s_law_is) f cdv A outer s H E).wish xe) "int" := rfl
theorem gl_law_is_isinstance : Gl ((cxOf CX P w K mg base ["found", "top", "bottom", "number"] "_law_is" (defScope s_law_is) f cdv A outer s H E).wish xe) "isinstance" := rfl
theorem gl_law_is_len : Gl ((cxOf CX P w K mg base ["found", "top", "bottom", "number"] "_law_is" (defScope s_law_is) f cdv A outer s H E).wish xe) "len" := rfl
theorem gl_law_is_tuple : Gl ((cxOf CX P w K mg base ["found", "top", "bottom", "number"] "_law_is" (defScope s_law_is) f cdv A outer s H E).wish xe) "tuple" := rfl
end
abbrev s_law_text : Stmt := top 18
theorem sc_law_text : FnScope ["made"] ["made"] (defScope s_law_text) := ⟨rfl, rfl, rfl, by decide +kernel, rfl, by decide +kernel, by decide +kernel⟩
section
variable {CX : CXT} {P : Program} {w : World} {K : PySem.W.Frag} {mg : Str → Option Value} {base : Heap} {f : Addr} {cdv : Value} {A : Around} {outer : List Env} {s : Shared} {H : Hp} {E : XK} {xe : Value → Shared → Prop}
theorem v_law_text_0 {pos : Pos} : QE ((cxOf CX P w K mg base ["made"] "_law_text" (defScope s_law_text) f cdv A outer s H E).wish xe) (.Name "made" pos) (tVar 0) := ⟨pe_var rfl (Or.inl rfl)⟩
theorem n_law_text_0 {pos : Pos} : QG ((cxOf CX P w K mg base ["made"] "_law_text" (defScope s_law_text) f cdv A outer s H E).wish xe) (.Name "made" pos) (gName 0) := ⟨pg_name sc_law_text.nd rfl (Or.inl rfl)⟩
theorem a_law_text_0 {e : Expr} {te : TE} {pos pos2 : Pos} (he : QE ((cxOf CX P w K mg base ["made"] "_law_text" (defScope s_law_text) f cdv A outer s H E).wish xe) e te) (hs : swapsWith e (some (.Name "made" pos2)) pos.line ((cxOf CX P w K mg base ["made"] "_law_text" (defScope s_law_text) f cdv A outer s H E).wish xe).env = pure false := by rfl) : QS ((cxOf CX P w K mg base ["made"] "_law_text" (defScope s_law_text) f cdv A outer s H E).wish xe) (.Assign [.Name "made" pos2] e pos) (tAsg te (gName 0)) := ⟨ps_set sc_law_text.nd rfl (Or.inl rfl) he.p hs⟩
theorem gl_law_text_str : Gl ((cxOf CX P w K mg base ["made"] "_law_text" (defScope s_law_text) f cdv A outer s H E).wish xe) "str" := rfl
end
abbrev s_law : Stmt := top 19
theorem sc_law : FnScope ["script", "cell", "made", "found", "back", "far"] ["script"] (defScope s_law) := ⟨rfl, rfl, rfl, by decide +kernel, rfl, by decide +kernel, by decide +kernel⟩
section
variable {CX : CXT} {P : Program} {w : World} {K : PySem.W.Frag} {mg : Str → Option Value} {base : Heap} {f : Addr} {cdv : Value} {A : Around} {outer : List Env} {s : Shared} {H : Hp} {E : XK} {xe : Value → Shared → Prop}
theorem v_law_0 {pos : Pos} : QE ((cxOf CX P w K mg base ["script", "cell", "made", "found", "back", "far"] "law" (defScope s_law) f cdv A outer s H E).wish xe) (.Name "script" pos) (tVar 0) := ⟨pe_var rfl (Or.inl rfl)⟩
theorem n_law_0 {pos : Pos} : QG ((cxOf CX P w K mg base ["script", "cell", "made", "found", "back", "far"] "law" (defScope s_law) f cdv A outer s H E).wish xe) (.Name "script" pos) (gName 0) := ⟨pg_name sc_law.nd rfl (Or.inl rfl)⟩
theorem a_law_0 {e : Expr} {te : TE} {pos pos2 : Pos} (he : QE ((cxOf CX P w K mg base ["script", "cell", "made", "found", "back", "far"] "law" (defScope s_law) f cdv A outer s H E).wish xe) e te) (hs : swapsWith e (some (.Name "script" pos2)) pos.line ((cxOf CX P w K mg base ["script", "cell", "made", "found", "back", "far"] "law" (defScope s_law) f cdv A outer s H E).wish xe).env = pure false := by rfl) : QS ((cxOf CX P w K mg base ["script", "cell", "made", "found", "back", "far"] "law" (defScope s_law) f cdv A outer s H E).wish xe) (.Assign [.Name "script" pos2] e pos) (tAsg te (gName 0)) := ⟨ps_set sc_law.nd rfl (Or.inl rfl) he.p hs⟩
theorem v_law_1 {pos : Pos} : QE ((cxOf CX P w K mg base ["script", "cell", "made", "found", "back", "far"] "law" (defScope s_law) f cdv A outer s H E).wish xe) (.Name "cell" pos) (tVar 1) := ⟨pe_var rfl (Or.inl rfl)⟩
theorem n_law_1 {pos : Pos} : QG ((cxOf CX P w K mg base ["script", "cell", "made", "found", "back", "far"] "law" (defScope s_law) f cdv A outer s H E).wish xe) (.Name "cell" pos) (gName 1) := ⟨pg_name sc_law.nd rfl (Or.inl rfl)⟩
theorem a_law_1 {e : Expr} {te : TE} {pos pos2 : Pos} (he : QE ((cxOf CX P w K mg base ["script", "cell", "made", "found", "back", "far"] "law" (defScope s_law) f cdv A outer s H E).wish xe) e te) (hs : swapsWith e (some (.Name "cell" pos2)) pos.line ((cxOf CX P w K mg base ["script", "cell", "made", "found", "back", "far"] "law" (defScope s_law) f cdv A outer s H E).wish xe).env = pure false := by rfl) : QS ((cxOf CX P w K mg base ["script", "cell", "made", "found", "back", "far"] "law" (defScope s_law) f cdv A outer s H E).wish xe) (.Assign [.Name "cell" pos2] e pos) (tAsg te (gName 1)) := ⟨ps_set sc_law.nd rfl (Or.inl rfl) he.p hs⟩
theorem v_law_2 {pos : Pos} : QE ((cxOf CX P w K mg base ["script", "cell", "made", "found", "back", "far"] "law" (defScope s_law) f cdv A outer s H E).wish xe) (.Name "made" pos) (tVar 2) := ⟨pe_var rfl (Or.inl rfl)⟩
theorem n_law_2 {pos : Pos} : QG ((cxOf CX P w K mg base ["script", "cell", "made", "found", "back", "far"] "law" (defScope s_law) f cdv A outer s H E).wish xe) (.Name "made" pos) (gName 2) := ⟨pg_name sc_law.nd rfl (Or.inl rfl)⟩
theorem a_law_2 {e : Expr} {te : TE} {pos pos2 : Pos} (he : QE ((cxOf CX P w K mg base ["script", "cell", "made", "found", "back", "far"] "law" (defScope s_law) f cdv A outer s H E).wish xe) e te) (hs : swapsWith e (some (.Name "made" pos2)) pos.line ((cxOf CX P w K mg base ["script", "cell", "made", "found", "back", "far"] "law" (defScope s_law) f cdv A outer s H E).wish xe).env = pure false := by rfl) : QS ((cxOf CX P w K mg base ["script", "cell", "made", "found", "back", "far"] "law" (defScope s_law) f cdv A outer s H E).wish xe) (.Assign [.Name "made" pos2] e pos) (tAsg te (gName 2)) := ⟨ps_set sc_law.nd rfl (Or.inl rfl) he.p hs⟩
theorem v_law_3 {pos : Pos} : QE ((cxOf CX P w K mg base ["script", "cell", "made", "found", "back", "far"] "law" (defScope s_law) f cdv A outer s H E).wish xe) (.Name "found" pos) (tVar 3) := ⟨pe_var rfl (Or.inl rfl)⟩
theorem n_law_3 {pos : Pos} : QG ((cxOf CX P w K mg base ["script", "cell", "made", "found", "back", "far"] "law" (defScope s_law) f cdv A outer s H E).wish xe) (.Name "found" pos) (gName 3) := ⟨pg_name sc_law.nd rfl (Or.inl rfl)⟩
theorem a_law_3 {e : Expr} {te : TE} {pos pos2 : Pos} (he : QE ((cxOf CX P w K mg base ["script", "cell", "made", "found", "back", "far"] "law" (defScope s_law) f cdv A outer s H E).wish xe) e te) (hs : swapsWith e (some (.Name "found" pos2)) pos.line ((cxOf CX P w K mg base ["script", "cell", "made", "found", "back", "far"] "law" (defScope s_law) f cdv A outer s H E).wish xe).env = pure false := by rfl) : QS ((cxOf CX P w K mg base ["script", "cell", "made", "found", "back", "far"] "law" (defScope s_law) f cdv A outer s H E).wish xe) (.Assign [.Name "found" pos2] e pos) (tAsg te (gName 3)) := ⟨ps_set sc_law.nd rfl (Or.inl rfl) he.p hs⟩
theorem v_law_4 {pos : Pos} : QE ((cxOf CX P w K mg base ["script", "cell", "made", "found", "back", "far"] "law" (defScope s_law) f cdv A outer s H E).wish xe) (.Name "back" pos) (tVar 4) := ⟨pe_var rfl (Or.inl rfl)⟩
theorem n_law_4 {pos : Pos} : QG ((cxOf CX P w K mg base ["script", "cell", "made", "found", "back", "far"] "law" (defScope s_law) f cdv A outer s H E).wish xe) (.Name "back" pos) (gName 4) := ⟨pg_name sc_law.nd rfl (Or.inl rfl)⟩
theorem a_law_4 {e : Expr} {te : TE} {pos pos2 : Pos} (he : QE ((cxOf CX P w K mg base ["script", "cell", "made", "found", "back", "far"] "law" (defScope s_law) f cdv A outer s H E).wish xe) e te) (hs : swapsWith e (some (.Name "back" pos2)) pos.line ((cxOf CX P w K mg base ["script", "cell", "made", "found", "back", "far"] "law" (defScope s_law) f cdv A outer s H E).wish xe).env = pure false := by rfl) : QS ((cxOf CX P w K mg base ["script", "cell", "made", "found", "back", "far"] "law" (defScope s_law) f cdv A outer s H E).wish xe) (.Assign [.Name "back" pos2] e pos) (tAsg te (gName 4)) := ⟨ps_set sc_law.nd rfl (Or.inl rfl) he.p hs⟩
theorem v_law_5 {pos : Pos} : QE ((cxOf CX P w K mg base ["script", "cell", "made", "found", "back", "far"] "law" (defScope s_law) f cdv A outer s H E).wish xe) (.Name "far" pos) (tVar 5) := ⟨pe_var rfl (Or.inl rfl)⟩
theorem n_law_5 {pos : Pos} : QG ((cxOf CX P w K mg base ["script", "cell", "made", "found", "back", "far"] "law" (defScope s_law) f cdv A outer s H E).wish xe) (.Name "far" pos) (gName 5) := ⟨pg_name sc_law.nd rfl (Or.inl rfl)⟩
theorem a_law_5 {e : Expr} {te : TE} {pos pos2 : Pos} (he : QE ((cxOf CX P w K mg base ["script", "cell", "made", "found", "back", "far"] "law" (defScope s_law) f cdv A outer s H E).wish xe) e te) (hs : swapsWith e (some (.Name "far" pos2)) pos.line ((cxOf CX P w K mg base ["script", "cell", "made", "found", "back", "far"] "law" (defScope s_law) f cdv A outer s H E).wish xe).env = pure false := by rfl) : QS ((cxOf CX P w K mg base ["script", "cell", "made", "found", "back", "far"] "law" (defScope s_law) f cdv A outer s H E).wish xe) (.Assign [.Name "far" pos2] e pos) (tAsg te (gName 5)) := ⟨ps_set sc_law.nd rfl (Or.inl rfl) he.p hs⟩
theorem gl_law__law_fraction : Gl ((cxOf CX P w K mg base ["script", "cell", "made", "found", "back", "far"] "law" (defScope s_law) f cdv A outer s H E).wish xe) "_law_fraction" := rfl
theorem gl_law__law_is : Gl ((cxOf CX P w K mg base ["script", "cell", "made", "found", "back", "far"] "law" (defScope s_law) f cdv A outer s H E).wish xe) "_law_is" := rfl
theorem gl_law__law_stir : Gl ((cxOf CX P w K mg base ["script", "cell", "made", "found", "back", "far"] "law" (defScope s_law) f cdv A outer s H E).wish xe) "_law_stir" := rfl
theorem gl_law__law_text : Gl ((cxOf CX P w K mg base ["script", "cell", "made", "found", "back", "far"] "law" (defScope s_law) f cdv A outer s H E).wish xe) "_law_text" := rfl
theorem gl_law_fraction_read : Gl ((cxOf CX P w K mg base ["script", "cell", "made", "found", "back", "far"] "law" (defScope s_law) f cdv A outer s H E).wish xe) "fraction_read" := rfl
theorem gl_law_fraction_written : Gl ((cxOf CX P w K mg base ["script", "cell", "made", "found", "back", "far"] "law" (defScope s_law) f cdv A outer s H E).wish xe) "fraction_written" := rfl
theorem gl_law_isinstance : Gl ((cxOf CX P w K mg base ["script", "cell", "made", "found", "back", "far"] "law" (defScope s_law) f cdv A outer s H E).wish xe) "isinstance" := rfl
theorem gl_law_str : Gl ((cxOf CX P w K mg base ["script", "cell", "made", "found", "back", "far"] "law" (defScope s_law) f cdv A outer s H E).wish xe) "str" := rfl
end
structure Txt (K : PySem.W.Frag) (mg : Str → Option Value) (cNoText : Addr) : Prop where
  n_abs : mg "abs" = none
  n_all : mg "all" = none
  n_bool : mg "bool" = none
  n_int : mg "int" = none
  n_isinstance : mg "isinstance" = none
  n_len : mg "len" = none
  n_str : mg "str" = none
  n_tuple : mg "tuple" = none
  g_BLOCK_FIGURES : ∃ t, mg "BLOCK_FIGURES" = some (.int 64 t)
  g_FIGURES : ∃ t, mg "FIGURES" = some (.str "0123456789" t)
  g_MOST_FIGURES : ∃ t, mg "MOST_FIGURES" = some (.int 600 t)
  x_NoText : Exc K mg "NoText" cNoText
/-! ### promises of what many laws use -/
theorem dT {Q : VK} {H : Hp} {p : Prop} [Decidable p] (h : p) (q : Q (.bl true) H) : Q (.bl (decide p)) H := by rw [decide_eq_true h]; exact q
theorem iteT2 {b : Bool} {A B : Prop} (h : b = true) (k : A) : if b = true then A else B := by rw [h]; exact iteT k
theorem iteF2 {b : Bool} {A B : Prop} (h : b = false) (k : B) : if b = true then A else B := by rw [h]; exact iteF k
def prime : Int := 170141183460469231731687303715884105727
def sp_common_divisor : Sp := fun vs H Q _ => ∃ a b : Int, vs = [.int a, .int b] ∧ Q (.int (Int.gcd a b : Nat)) H
def sp_law_stir : Sp := fun vs H Q _ => ∃ c k : Int, vs = [.int c, .int k] ∧ Bt 640 k ∧ ∀ r : Int, 0 ≤ r → r < prime → Q (.int r) H
def sp_law_measure : Sp := fun vs H Q _ => ∃ a b : Int, vs = [.int a, .int b] ∧ Q (.int (Int.gcd a b : Nat)) H
/-- a fraction of at most sixty figures -/
structure Frc (a b : Int) : Prop where
  pos : 1 ≤ b
  cop : Int.gcd a b = 1
  ba : Bt 200 a
  bb : Bt 200 b
def sp_law_fraction : Sp := fun vs H Q _ => ∃ c k : Int, vs = [.int c, .int k] ∧ Bt 640 k ∧ ∀ (a b : Int) p H', Frc a b → Same H H' → H' p = some (.tup [.int a, .int b]) → Q (.ref p) H'
theorem mn_frac : MnP sp_law_fraction := fun _ _ _ _ _ m ⟨c, k, h1, h2, h3⟩ => ⟨c, k, h1, h2, fun a b p H' f g e => m _ _ (h3 a b p H' f g e)⟩
theorem ok_common_divisor {P : Program} {w : World} {K : PySem.W.Frag} {mg : Str → Option Value} {base : Heap} {f : Addr} {fd : FuncData} {cNoText : Addr} (T : Txt K mg cNoText) (F : Fun K "common_divisor" "common_divisor" s_common_divisor f fd) : FnOk P w K mg base (CXe P w) 1 f fd ["one", "other"] sp_common_divisor := by
  refine F.okN sc_common_divisor (fun vs H Q E h => ?_) (fun cdv A outer s H vs Q E hr h => ?_)
  · obtain ⟨a, b, rfl, q⟩ := h
    rfl
  obtain ⟨a, b, rfl, q⟩ := h
  have hu := hr.units
  refine ⟨_, (qss_cons (a_common_divisor_2 (qe_callB call_abs gl_common_divisor_abs T.n_abs b_abs (qa_cons v_common_divisor_0 qa_nil) m_abs d_abs))
      (qss_cons (a_common_divisor_3 (qe_callB call_abs gl_common_divisor_abs T.n_abs b_abs (qa_cons v_common_divisor_1 qa_nil) m_abs d_abs))
      (qss_cons (qs_while PassesOwn.never (qt_cmpR op_ne v_common_divisor_3 qe_int (nomark _)) (qss_cons (a_common_divisor_4 (qe_op op_mod v_common_divisor_2 v_common_divisor_3))
      (qss_cons (a_common_divisor_2 v_common_divisor_3)
      (qss_one (a_common_divisor_3 v_common_divisor_4)))))
      (qss_one (qs_ret v_common_divisor_2))))), ?_⟩
  walk_at "rd"
  refine while_by (fun σ H' => ∃ (g s : Int) (r : Option V), σ = [some (.int a), some (.int b), some (.int g), some (.int s), r] ∧ H' = H ∧ 0 ≤ g ∧ 0 ≤ s ∧ Int.gcd g s = Int.gcd a b) (fun σ _ => match σ with | [_, _, _, some (.int s), _] => s.natAbs | _ => 0) ⟨_, _, none, rfl, rfl, by split <;> omega, by split <;> omega, gcd_abs a b⟩ ?_ (fun σ H Q Q' m hh => ?_)
  · rintro σ H' ⟨g, s, r, rfl, rfl, hg, hs, e⟩
    refine ⟨_, rfl, rfl, _, rfl, ?_⟩
    refine ite2 (fun c => ?_) (fun c => ?_)
    · have hs0 : 0 < s := by
        have : s ≠ 0 := by simpa using c
        omega
      refine ⟨_, rfl, _, rfl, _, _, rfl, rfl, hs0, _, rfl, _, rfl, ⟨s, g % s, _, rfl, rfl, hs, Int.emod_nonneg _ (by omega), (gcd_emod g s).trans e⟩, ?_⟩
      have h1 := Int.emod_lt_of_pos g hs0
      have h2 := Int.emod_nonneg g (show s ≠ 0 by omega)
      show (g % s).natAbs < s.natAbs
      omega
    · have hs0 : s = 0 := by simpa using c
      subst hs0
      rw [Int.gcd_zero_right] at e
      refine ⟨_, rfl, ?_⟩
      have : g = ((Int.gcd a b : Nat) : Int) := by omega
      rw [this]
      exact q
  · obtain ⟨v, h1, h2, x, h3, h4⟩ := hh
    exact ⟨v, h1, h2, x, h3, m _ _ h4⟩
theorem ok_law_stir {P : Program} {w : World} {K : PySem.W.Frag} {mg : Str → Option Value} {base : Heap} {f : Addr} {fd : FuncData} {cNoText : Addr} (T : Txt K mg cNoText) (F : Fun K "_law_stir" "_law_stir" s_law_stir f fd) : FnOk P w K mg base (CXe P w) 1 f fd ["cell", "k"] sp_law_stir := by
  refine F.okN sc_law_stir (fun vs H Q E h => ?_) (fun cdv A outer s H vs Q E hr h => ?_)
  · obtain ⟨c, k, rfl, bk, q⟩ := h
    rfl
  obtain ⟨c, k, rfl, bk, q⟩ := h
  have hu := hr.units
  refine ⟨_, (qss_cons (a_law_stir_2 qe_int)
      (qss_cons (a_law_stir_3 (qe_op op_mod (qe_op op_add (qe_op op_add (qe_op op_mod v_law_stir_0 (qe_op op_pow qe_int qe_int)) (qe_op op_mulB qe_int v_law_stir_1)) qe_int) v_law_stir_2))
      (qss_one (qs_ret (qe_op op_mod (qe_op op_mulB (qe_op op_mod (qe_op op_mulB v_law_stir_3 v_law_stir_3) v_law_stir_2) qe_int) v_law_stir_2))))), ?_⟩
  walk_at "rd"
  exact q _ (Int.emod_nonneg _ (by decide)) (Int.emod_lt_of_pos _ (by decide))
theorem ok_law_measure {P : Program} {w : World} {K : PySem.W.Frag} {mg : Str → Option Value} {base : Heap} {f : Addr} {fd : FuncData} {cNoText : Addr} (T : Txt K mg cNoText) (F : Fun K "_law_measure" "_law_measure" s_law_measure f fd) : FnOk P w K mg base (CXe P w) 1 f fd ["one", "other"] sp_law_measure := by
  refine F.okN sc_law_measure (fun vs H Q E h => ?_) (fun cdv A outer s H vs Q E hr h => ?_)
  · obtain ⟨a, b, rfl, q⟩ := h
    rfl
  obtain ⟨a, b, rfl, q⟩ := h
  have hu := hr.units
  refine ⟨_, (qss_cons (qs_while PassesOwn.never (qt_cmpR op_ne v_law_measure_1 qe_int (nomark _)) (qss_one (qs_par rfl sc_law_measure.nd (i := 0) (j := 1) rfl rfl (by decide) rfl rfl (qa_cons v_law_measure_1 (qa_cons (qe_op op_modN v_law_measure_0 v_law_measure_1) qa_nil)) rfl)))
      (qss_one (qs_ret (qe_callB call_abs gl_law_measure_abs T.n_abs b_abs (qa_cons v_law_measure_0 qa_nil) m_abs d_abs)))), ?_⟩
  refine while_by (fun σ H' => ∃ (x y : Int), σ = [some (.int x), some (.int y)] ∧ H' = H ∧ Int.gcd x y = Int.gcd a b) (fun σ _ => match σ with | [_, some (.int s)] => s.natAbs | _ => 0) ⟨_, _, rfl, rfl, rfl⟩ ?_ (fun σ H Q Q' m hh => ?_)
  · rintro σ H' ⟨x, y, rfl, rfl, e⟩
    refine ⟨_, rfl, rfl, _, rfl, ?_⟩
    refine ite2 (fun c => ?_) (fun c => ?_)
    · have hy : y ≠ 0 := by simpa using c
      refine ⟨_, rfl, _, rfl, _, rfl, _, _, rfl, rfl, hy, _, _, rfl, ⟨y, x.fmod y, rfl, rfl, (gcd_fmod x y).trans e⟩, ?_⟩
      show (x.fmod y).natAbs < y.natAbs
      exact natAbs_fmod_lt hy
    · have hy : y = 0 := by simpa using c
      subst hy
      rw [Int.gcd_zero_right] at e
      refine ⟨_, rfl, _, rfl, ?_⟩
      have : (if x < 0 then -x else x) = ((Int.gcd a b : Nat) : Int) := by split <;> omega
      rw [this]
      exact q
  · obtain ⟨v, h1, h2, x, h3, h4⟩ := hh
    exact ⟨v, h1, h2, x, h3, m _ _ h4⟩
theorem ok_law_fraction {P : Program} {w : World} {K : PySem.W.Frag} {mg : Str → Option Value} {base : Heap} {f : Addr} {fd : FuncData} {cNoText : Addr} (T : Txt K mg cNoText) (F : Fun K "_law_fraction" "_law_fraction" s_law_fraction f fd) (c__law_stir : Cal P w K mg base (CXe P w) 1 "_law_stir" ["cell", "k"] sp_law_stir) (c__law_measure : Cal P w K mg base (CXe P w) 1 "_law_measure" ["one", "other"] sp_law_measure) : FnOk P w K mg base (CXe P w) 2 f fd ["cell", "k"] sp_law_fraction := by
  refine F.okN sc_law_fraction (fun vs H Q E h => ?_) (fun cdv A outer s H vs Q E hr h => ?_)
  · obtain ⟨c, k, rfl, bk, q⟩ := h
    rfl
  obtain ⟨c, k, rfl, bk, q⟩ := h
  have hu := hr.units
  refine ⟨_, (qss_cons (a_law_fraction_2 (qe_op op_fdivP (qe_fn c__law_stir (hr.mono (by decide)) passE0 (qa_cons v_law_fraction_0 (qa_cons v_law_fraction_1 qa_nil)) gl_law_fraction__law_stir d__law_stir) qe_int))
      (qss_cons (a_law_fraction_3 (qe_ix ix_list (qe_lstS (qa_cons qe_int (qa_cons qe_int (qa_cons qe_int (qa_cons (qe_op op_pow qe_int qe_int) qa_nil))))) (qe_op op_mod v_law_fraction_2 qe_int) (fun _ _ => rfl)))
      (qss_cons (a_law_fraction_4 (qe_op op_sub (qe_op op_mod (qe_op op_fdivP v_law_fraction_2 qe_int) (qe_op op_add (qe_op op_mulB qe_int v_law_fraction_3) qe_int)) v_law_fraction_3))
      (qss_cons (a_law_fraction_5 (qe_op op_add qe_int (qe_op op_mod (qe_op op_fdivP (qe_op op_fdivP v_law_fraction_2 qe_int) (qe_op op_add (qe_op op_mulB qe_int v_law_fraction_3) qe_int)) (qe_ix ix_list (qe_lstS (qa_cons qe_int (qa_cons qe_int (qa_cons qe_int (qa_cons (qe_op op_pow qe_int qe_int) qa_nil))))) (qe_op op_mod (qe_op op_fdivP v_law_fraction_2 qe_int) qe_int) (fun _ _ => rfl)))))
      (qss_cons (qs_if (qt_cmpR op_eq (qe_op op_mod (qe_op op_fdivP v_law_fraction_2 qe_int) qe_int) qe_int (nomark _)) (qss_one (a_law_fraction_4 (qe_op op_mulB (qe_op op_sub (qe_op op_mulB (qe_op op_mod v_law_fraction_2 qe_int) qe_int) qe_int) (qe_op op_sub (qe_op op_sub (qe_op op_pow qe_int qe_int) qe_int) (qe_op op_mod (qe_op op_fdivP v_law_fraction_2 qe_int) qe_int))))) qss_nil)
      (qss_cons (qs_if (qt_cmpR op_eq (qe_op op_mod (qe_op op_fdivP v_law_fraction_2 qe_int) qe_int) qe_int (nomark _)) (qss_one (a_law_fraction_5 (qe_op op_sub (qe_op op_sub (qe_op op_pow qe_int qe_int) qe_int) (qe_op op_mod (qe_op op_fdivP v_law_fraction_2 qe_int) qe_int)))) qss_nil)
      (qss_cons (a_law_fraction_6 (qe_fn c__law_measure (hr.mono (by decide)) passE0 (qa_cons v_law_fraction_4 (qa_cons v_law_fraction_5 qa_nil)) gl_law_fraction__law_measure d__law_measure))
      (qss_one (qs_ret (qe_tupS (qa_cons (qe_op op_fdivP v_law_fraction_4 v_law_fraction_6) (qa_cons (qe_op op_fdivP v_law_fraction_5 v_law_fraction_6) qa_nil)))))))))))), ?_⟩
  refine ⟨_, rfl, _, rfl, _, _, rfl, bk, fun r hr0 hr1 => ?_⟩
  have hL0 : 0 ≤ r / 7 := Int.ediv_nonneg hr0 (by decide)
  refine ⟨_, _, rfl, rfl, ⟨by decide, bt_small (by decide) (by decide)⟩, ?_⟩
  dsimp only
  generalize r / 7 = L at hL0 ⊢
  -- size
  refine ⟨_, _, rfl, rfl, ⟨by decide, by decide, by decide⟩, (by show 4 ≤ sizeLine; decide), fun p1 H1 g1 e1 => ?_⟩
  have hm4 : 0 ≤ L % 4 ∧ L % 4 < 4 := by omega
  obtain ⟨sz, hm, ea⟩ := at_menu (ns := [3, 12, 1000, 10 ^ 17]) (i := L % 4) hm4.1 hm4.2
  have hsz : 3 ≤ sz ∧ sz ≤ 100000000000000000 := by
    simp at hm
    omega
  obtain ⟨hs1, hs2⟩ := hsz
  refine ⟨_, rfl, _, _, rfl, rfl, (by show (0 : Int) < 4; decide), ixl_back e1 ea ?_⟩
  have bsz : Bt 640 sz := bt_n (by omega) (by omega)
  have hS : 0 < 2 * sz + 1 := by omega
  have bS : Bt 9000 (2 * sz + 1) := (bt_n (by omega) (by omega)).le
  -- top
  refine ⟨_, rfl, _, _, rfl, rfl, ⟨by decide, bt_small (by decide) (by decide)⟩, _, rfl, _, _, rfl, rfl, ⟨bt_k (by decide +kernel) |>.le, bsz.le⟩, _, _, rfl, rfl, _, _, rfl, rfl, hS, _, rfl, _, _, rfl, rfl, ?_⟩
  have ht : -sz ≤ L / 4 % (2 * sz + 1) - sz ∧ L / 4 % (2 * sz + 1) - sz ≤ sz := by
    have h1 := Int.emod_nonneg (L / 4) (show 2 * sz + 1 ≠ 0 by omega)
    have h2 := Int.emod_lt_of_pos (L / 4) hS
    omega
  dsimp only
  generalize L / 4 % (2 * sz + 1) - sz = tp at ht ⊢
  -- bottom
  refine ⟨_, rfl, _, _, rfl, rfl, ⟨by decide, bt_small (by decide) (by decide)⟩, _, rfl, _, _, rfl, rfl, ⟨bt_k (by decide +kernel) |>.le, bsz.le⟩, _, _, rfl, rfl, _, _, rfl, rfl, ⟨hS, bS⟩, ?_⟩
  refine ⟨_, _, rfl, rfl, ⟨by decide, by decide, by decide⟩, (by show 4 ≤ sizeLine; decide), fun p2 H2 g2 e2 => ?_⟩
  have hm9 : 0 ≤ L / 9 % 4 ∧ L / 9 % 4 < 4 := by omega
  obtain ⟨mn, hn, eb⟩ := at_menu (ns := [4, 12, 60, 10 ^ 17]) (i := L / 9 % 4) hm9.1 hm9.2
  have hmn : 4 ≤ mn ∧ mn ≤ 100000000000000000 := by
    simp at hn
    omega
  obtain ⟨hn1, hn2⟩ := hmn
  refine ⟨_, rfl, _, _, rfl, rfl, ⟨by decide, bt_small (by decide) (by decide)⟩, _, _, rfl, rfl, (by show (0 : Int) < 4; decide), ixl_back e2 eb ?_⟩
  refine ⟨_, _, rfl, rfl, (by show 0 < mn; omega), _, _, rfl, rfl, ?_⟩
  have hb : 1 ≤ 1 + L / 4 / (2 * sz + 1) % mn ∧ 1 + L / 4 / (2 * sz + 1) % mn ≤ 100000000000000000 := by
    have h1 := Int.emod_nonneg (L / 4 / (2 * sz + 1)) (show mn ≠ 0 by omega)
    have h2 := Int.emod_lt_of_pos (L / 4 / (2 * sz + 1)) (show 0 < mn by omega)
    omega
  dsimp only
  generalize 1 + L / 4 / (2 * sz + 1) % mn = bo at hb ⊢
  -- the two ifs
  have e60 : (10 : Int) ^ (60 : Int).toNat = 1000000000000000000000000000000000000000000000000000000000000 := by decide +kernel
  refine seq_cut (fun σ' H' => H' = H2 ∧ ∃ x : Int, -1000000000000000000000000000000000000000000000000000000000000 ≤ x ∧ x ≤ 1000000000000000000000000000000000000000000000000000000000000 ∧ σ' = [some (.int c), some (.int k), some (.int L), some (.int sz), some (.int x), some (.int bo), none]) (by walk_at "mn") ?_ ?_
  · refine ⟨_, rfl, _, _, rfl, rfl, ⟨by decide, bt_small (by decide) (by decide)⟩, _, _, rfl, rfl, (by show (0 : Int) < 11; decide), rfl, _, rfl, ?_⟩
    refine ite2 (fun _ => ?_) (fun _ => ?_)
    · refine ⟨_, rfl, _, _, rfl, rfl, (by show (0 : Int) < 2; decide), _, _, rfl, rfl, ⟨(bt_n (by omega) (by omega)).le, bt_k (by decide +kernel) |>.le⟩, _, _, rfl, rfl, ?_⟩
      refine ⟨_, _, rfl, rfl, ⟨by decide, by decide, by decide⟩, _, _, rfl, rfl, _, rfl, _, _, rfl, rfl, ⟨by decide, bt_small (by decide) (by decide)⟩, _, _, rfl, rfl, (by show (0 : Int) < 1000; decide), _, _, rfl, rfl, ?_⟩
      dsimp only
      rw [e60]
      have hy : 0 ≤ L / 70 % 1000 ∧ L / 70 % 1000 < 1000 := by omega
      have hx : L % 2 * 2 - 1 = 1 ∨ L % 2 * 2 - 1 = -1 := by omega
      refine ⟨_, _, rfl, rfl, ⟨(bt_abs (n := 640) (by omega)).le, (bt_abs (n := 640) (by omega)).le⟩, rfl, _, ?_, ?_, rfl⟩
      all_goals
        rcases hx with hx | hx
        all_goals rw [hx]; omega
    · exact ⟨rfl, tp, by omega, by omega, rfl⟩
  rintro σ' H' ⟨rfl, x, hx1, hx2, rfl⟩
  refine seq_cut (fun σ' H'' => H'' = H' ∧ ∃ y : Int, 1 ≤ y ∧ y ≤ 1000000000000000000000000000000000000000000000000000000000000 ∧ σ' = [some (.int c), some (.int k), some (.int L), some (.int sz), some (.int x), some (.int y), none]) (by walk_at "mn") ?_ ?_
  · refine ⟨_, rfl, _, _, rfl, rfl, ⟨by decide, bt_small (by decide) (by decide)⟩, _, _, rfl, rfl, (by show (0 : Int) < 13; decide), rfl, _, rfl, ?_⟩
    refine ite2 (fun _ => ?_) (fun _ => ?_)
    · refine ⟨_, _, rfl, rfl, ⟨by decide, by decide, by decide⟩, _, _, rfl, rfl, _, rfl, _, _, rfl, rfl, ⟨by decide, bt_small (by decide) (by decide)⟩, _, _, rfl, rfl, (by show (0 : Int) < 1000; decide), _, _, rfl, rfl, ?_⟩
      have hy : 0 ≤ L / 80 % 1000 ∧ L / 80 % 1000 < 1000 := by omega
      dsimp only
      rw [e60]
      exact ⟨rfl, _, by omega, by omega, rfl⟩
    · exact ⟨rfl, bo, by omega, by omega, rfl⟩
  rintro σ' H'' ⟨rfl, y, hy1, hy2, rfl⟩
  -- part
  obtain ⟨d1, d2, d3, d4, d5⟩ := div_gcd (t := x) (b := y) (by omega)
  have bx : Bt 200 x := bt_abs (by omega)
  have by' : Bt 200 y := bt_abs (by omega)
  have bd : Bt 9000 ((Int.gcd x y : Nat) : Int) := by
    have h1 : Bt 200 ((Int.gcd x y : Nat) : Int) := by'.of_abs (by
      have h1 : (((Int.gcd x y : Nat) : Int)).natAbs ∣ y.natAbs := Int.natAbs_dvd_natAbs.mpr (Int.gcd_dvd_right x y)
      exact Nat.le_of_dvd (by omega) h1)
    exact h1.le
  refine ⟨_, rfl, _, rfl, _, _, rfl, _, rfl, _, rfl, _, _, rfl, rfl, ⟨d1, bd⟩, _, rfl, _, rfl, _, _, rfl, rfl, ⟨d1, bd⟩, (by show 2 ≤ sizeLine; decide), fun p H3 g3 e3 => ?_⟩
  refine q _ _ p H3 ⟨d4, d5, bx.of_abs (natAbs_ediv_le d1), by'.of_abs (natAbs_ediv_le d1)⟩ (g1.trans (g2.trans g3)) e3
/-- found is the fraction t by u -/
def sp_law_is : Sp := fun vs H Q _ => ∃ (p : Addr) (t u a b : Int), vs = [.ref p, .int t, .int u] ∧ H p = some (.tup [.int a, .int b]) ∧ Bt 9000 t ∧ Bt 9000 u ∧ Bt 9000 a ∧ Bt 9000 b ∧ 1 ≤ b ∧ Int.gcd a b = 1 ∧ a * u = t * b ∧ Q (.bl true) H
theorem ok_law_is {P : Program} {w : World} {K : PySem.W.Frag} {mg : Str → Option Value} {base : Heap} {f : Addr} {fd : FuncData} {cNoText : Addr} (T : Txt K mg cNoText) (F : Fun K "_law_is" "_law_is" s_law_is f fd) (c__law_measure : Cal P w K mg base (CXe P w) 1 "_law_measure" ["one", "other"] sp_law_measure) : FnOk P w K mg base (CXe P w) 2 f fd ["found", "top", "bottom"] sp_law_is := by
  refine F.okN sc_law_is (fun vs H Q E h => ?_) (fun cdv A outer s H vs Q E hr h => ?_)
  · obtain ⟨p, t, u, a, b, rfl, h, bt, bu, ba, bb, hb, hg, hx, q⟩ := h
    rfl
  obtain ⟨p, t, u, a, b, rfl, h, bt, bu, ba, bb, hb, hg, hx, q⟩ := h
  have hu := hr.units
  refine ⟨_, (qss_cons (qs_if (QW.pt (qw_or (qt_not (qt_val (qe_callB call_isi gl_law_is_isinstance T.n_isinstance b_isinstance (qa_cons v_law_is_0 (qa_cons (qe_bltn (v := .ty "tuple") gl_law_is_tuple T.n_tuple b_tuple rfl m_tuple d_tuple) qa_nil)) m_isinstance d_isinstance))) (qw_or1 (qt_cmpR op_ne (qe_callB call_len_seq gl_law_is_len T.n_len b_len (qa_cons v_law_is_0 qa_nil) m_len d_len) qe_int (nomark _))))) (qss_one (qs_ret qe_bl)) qss_nil)
      (qss_cons (qs_for PassesOwn.never rfl (qi_tup v_law_is_0) n_law_is_3 (qss_one (qs_if (QW.pt (qw_or (qt_not (qt_val (qe_callB call_isi gl_law_is_isinstance T.n_isinstance b_isinstance (qa_cons v_law_is_3 (qa_cons (qe_bltn (v := .ty "int") gl_law_is_int T.n_int b_int rfl m_int d_int) qa_nil)) m_isinstance d_isinstance))) (qw_or1 (qt_val (qe_callB call_isi gl_law_is_isinstance T.n_isinstance b_isinstance (qa_cons v_law_is_3 (qa_cons (qe_bltn (v := .ty "bool") gl_law_is_bool T.n_bool b_bool rfl m_bool d_bool) qa_nil)) m_isinstance d_isinstance))))) (qss_one (qs_ret qe_bl)) qss_nil)))
      (qss_cons (qs_if (QW.pt (qw_or (qt_cmpR op_lt (qe_ix ix_tup v_law_is_0 qe_int (fun _ _ => rfl)) qe_int (nomark _)) (qw_or1 (qt_cmpR op_ne (qe_fn c__law_measure (hr.mono (by decide)) passE0 (qa_cons (qe_ix ix_tup v_law_is_0 qe_int (fun _ _ => rfl)) (qa_cons (qe_ix ix_tup v_law_is_0 qe_int (fun _ _ => rfl)) qa_nil)) gl_law_is__law_measure d__law_measure) qe_int (nomark _))))) (qss_one (qs_ret qe_bl)) qss_nil)
      (qss_one (qs_ret (qe_cmpR op_eq (qe_op op_mulB (qe_ix ix_tup v_law_is_0 qe_int (fun _ _ => rfl)) v_law_is_2) (qe_op op_mulB v_law_is_1 (qe_ix ix_tup v_law_is_0 qe_int (fun _ _ => rfl))) (nomark _))))))), ?_⟩
  refine ⟨_, rfl, _, "tuple", _, true, rfl, .tup h, rfl, _, rfl, iteF ⟨_, rfl, p, _, rfl, .inr (SqT.of h), rfl, _, rfl, iteNS rfl ?_⟩⟩
  refine ⟨_, rfl, p, rfl, ⟨_, SqT.of h⟩, ?_⟩
  refine for_tup (K := K) (a := p) (xs := [.int a, .int b]) (fun _ σ H' => H' = H ∧ ∃ n : Option V, σ = [some (.ref p), some (.int t), some (.int u), n]) ⟨rfl, _, rfl⟩ (fun _ _ _ _ g => by rw [g.1]; exact SqT.of h) ?_ ?_
  · rintro i x σ H' hx ⟨rfl, n, rfl⟩
    obtain ⟨z, -, rfl⟩ := mem_ints (ns := [a, b]) hx
    exact ⟨_, rfl, _, "int", _, true, rfl, .int _, rfl, _, rfl, iteF ⟨_, rfl, _, "bool", _, false, rfl, .int _, rfl, _, rfl, iteF ⟨rfl, _, rfl⟩⟩⟩
  rintro σ H' ⟨rfl, n, rfl⟩
  walk_at "rd"
  refine iteF2 (b := decide (b < 1)) (decide_eq_false (by omega)) ?_
  walk_at "rd"
  refine iteNS (congrArg V.int (by rw [hg]; rfl)) ?_
  walk_at "rd"
  exact dT (congrArg V.int hx) q

/-! ### read -/
def sp_is_plain_figures : Sp := fun vs H Q _ => ∃ x : Str, vs = [.str x] ∧ x.length ≤ 100000 ∧ ∀ H', Same H H' → Q (.bl (plainL (cs x))) H'
def sp_number_read (cT : Addr) : Sp := fun vs H Q E => ∃ x : Str, vs = [.str x] ∧ x.length ≤ 100000 ∧ (∀ n H', numL (cs x) = some n → Same H H' → Q (.int n) H') ∧ (numL (cs x) = none → ∀ H', Same H H' → E (.ref cT) none H')
def sp_fraction_read (cT : Addr) : Sp := fun vs H Q E => ∃ x : Str, vs = [.str x] ∧ x.length ≤ 100000 ∧ (∀ a b p H', fracL (cs x) = some (a, b) → Same H H' → H' p = some (.tup [.int a, .int b]) → Q (.ref p) H') ∧ (fracL (cs x) = none → ∀ H', Same H H' → E (.ref cT) none H')
theorem c_nought : cs (Str.ofString "0") = [48] := by decide +kernel
theorem c_none : cs (Str.ofString "") = [] := by decide +kernel
theorem c_minus0 : cs (Str.ofString "-0") = [45, 48] := by decide +kernel
theorem eqv_cs {x y : Str} {l : List Nat} (e : cs y = l) : decide (V.str x = V.str y) = decide (cs x = l) := by
  apply decide_eq_decide.mpr
  rw [← e]
  exact ⟨fun z => by rw [V.str.inj z], fun z => by rw [eq_cs z]⟩
theorem line100 {n : Nat} (h : n ≤ 100000) : n < sizeLine := Nat.lt_of_le_of_lt h (by decide)
theorem ok_is_plain_figures {P : Program} {w : World} {K : PySem.W.Frag} {mg : Str → Option Value} {base : Heap} {f : Addr} {fd : FuncData} {cNoText : Addr} (T : Txt K mg cNoText) (F : Fun K "is_plain_figures" "is_plain_figures" s_is_plain_figures f fd) : FnOk P w K mg base (CXe P w) 1 f fd ["text"] sp_is_plain_figures := by
  refine F.okN sc_is_plain_figures (fun vs H Q E h => ?_) (fun cdv A outer s H vs Q E hr h => ?_)
  · obtain ⟨x, rfl, hx, q⟩ := h
    rfl
  obtain ⟨x, rfl, hx, q⟩ := h
  have hu := hr.units
  refine ⟨_, (qss_cons (qs_if (qt_cmpR op_eq v_is_plain_figures_0 qe_str (nomark _)) (qss_one (qs_ret qe_bl)) qss_nil)
      (qss_cons (qs_if (QW.pt (qw_or (qt_cmpR op_eq v_is_plain_figures_0 qe_str (nomark _)) (qw_or (qt_cmpR op_eq (qe_ix ix_str v_is_plain_figures_0 qe_int (fun _ _ => rfl)) qe_str (nomark _)) (qw_or1 (qt_cmpR op_gt (qe_callB call_len_str gl_is_plain_figures_len T.n_len b_len (qa_cons v_is_plain_figures_0 qa_nil) m_len d_len) (qe_globI gl_is_plain_figures_MOST_FIGURES T.g_MOST_FIGURES d_MOST_FIGURES) (nomark _)))))) (qss_one (qs_ret qe_bl)) qss_nil)
      (qss_one (qs_ret (qe_callB (call_allL rfl) gl_is_plain_figures_all T.n_all b_all (qa_cons (qe_lc rfl (qi_str v_is_plain_figures_0) rfl rfl (by decide +kernel) (by decide +kernel) (by decide +kernel) (fun C s2 H2 fp => (qe_cmpR op_in_str (qv 0) (qe_globS (by rfl) T.g_FIGURES d_FIGURES) (by with_unfolding_all rfl)))) qa_nil) m_all d_all))))), ?_⟩
  have hl := len_cs x
  refine ⟨_, rfl, rfl, _, rfl, ?_⟩
  rw [eqv_cs c_nought]
  refine ite2 (fun c => ?_) (fun c => ?_)
  · have e : cs x = [48] := of_decide_eq_true c
    have z := q H (Same.refl H)
    rw [e] at z
    exact z
  have n48 : cs x ≠ [48] := fun z => c (decide_eq_true z)
  refine ⟨_, rfl, rfl, _, rfl, ?_⟩
  rw [eqv_cs c_none]
  refine ite2 (fun c => ?_) (fun c => ?_)
  · have e : cs x = [] := of_decide_eq_true c
    have z := q H (Same.refl H)
    rw [e] at z
    exact iteT z
  have ne : cs x ≠ [] := fun z => c (decide_eq_true z)
  obtain ⟨d, r, ed⟩ : ∃ d r, cs x = d :: r := by
    cases h : cs x with
    | nil => exact absurd h ne
    | cons d r => exact ⟨d, r, rfl⟩
  refine ⟨_, rfl, x, 0, d, rfl, rfl, Nat.le_of_lt (line100 hx), (by show atI (cs x) 0 = _; rw [ed]; exact atI_nat (j := 0) rfl), rfl, _, rfl, ?_⟩
  rw [eqv_cs c_nought]
  refine ite2 (fun c => ?_) (fun c => ?_)
  · have e : cs (⟨#[d]⟩ : Str) = [48] := of_decide_eq_true c
    have e' : d = 48 := by injection e
    have z := q H (Same.refl H)
    have hp : plainL (cs x) = false := by
      unfold plainL
      rw [beq_eq_false_iff_ne.mpr n48, ed, e']
      simp
    rw [hp] at z
    exact iteT z
  have d48 : d ≠ 48 := fun z => c (decide_eq_true (by rw [z]))
  refine ⟨_, rfl, x, rfl, Nat.le_of_lt (line100 hx), _, _, rfl, rfl, _, rfl, ?_⟩
  have hb : plainL (cs x) = (decide (x.length ≤ 600) && (cs x).all dig) := by
    unfold plainL
    rw [beq_eq_false_iff_ne.mpr n48, beq_eq_false_iff_ne.mpr ne, hl]
    have : ((cs x).head? == some 48) = false := by
      rw [ed]
      exact beq_eq_false_iff_ne.mpr fun z => d48 (by injection z)
    rw [this]
    simp
  refine ite2 (fun c => ?_) (fun c => ?_)
  · have e : (600 : Int) < x.length := of_decide_eq_true c
    have z := q H (Same.refl H)
    rw [hb, decide_eq_false (by omega), Bool.false_and] at z
    exact z
  have e : ¬ (600 : Int) < x.length := fun z => c (decide_eq_true z)
  refine ⟨_, rfl, x, rfl, lc_signs (g := fun c => V.bl (dig c)) (line100 hx) (fun c H' Q' z => ⟨_, rfl, _, _, rfl, rfl, ?_⟩) (fun p hp => ⟨p, (cs x).map dig, rfl, SqL.of ?_, ?_⟩)⟩
  · rw [in_figs]; exact z
  · rw [upd_same, List.map_map]; rfl
  · have z := q _ (same_upd (o := .lst ((cs x).map fun c => V.bl (dig c))) hp)
    rw [hb, decide_eq_true (by omega), Bool.true_and] at z
    rw [List.all_map]
    exact z
theorem ok_number_read {P : Program} {w : World} {K : PySem.W.Frag} {mg : Str → Option Value} {base : Heap} {f : Addr} {fd : FuncData} {cNoText : Addr} (T : Txt K mg cNoText) (F : Fun K "number_read" "number_read" s_number_read f fd) (c_is_plain_figures : Cal P w K mg base (CXe P w) 1 "is_plain_figures" ["text"] sp_is_plain_figures) : FnOk P w K mg base (CXe P w) 2 f fd ["text"] (sp_number_read cNoText) := by
  refine F.okE sc_number_read (fun vs H Q E h => ?_) (fun cdv A outer s H vs Q E hr h => ?_)
  · obtain ⟨x, rfl, hx, q, qe⟩ := h
    rfl
  obtain ⟨x, rfl, hx, q, qe⟩ := h
  have hu := hr.units
  refine ⟨_, (qss_cons (a_number_read_1 (qe_ifExp (qt_val (qe_bm PySem.F.plainAttrs_str PySem.F.slot_str_startswith PySem.F.type_str_startswith mt_str_startswith v_number_read_0 (qa_cons qe_str qa_nil))) (qe_slice sl_str v_number_read_0 (qo_some qe_int) qo_none) v_number_read_0))
      (qss_cons (qs_if (QW.pt (qw_or (qt_cmpR op_eq v_number_read_0 qe_str (nomark _)) (qw_or1 (qt_not (qt_val (qe_fn c_is_plain_figures (hr.mono (by decide)) passE (qa_cons v_number_read_1 qa_nil) gl_number_read_is_plain_figures d_is_plain_figures)))))) (qss_one (qs_raise T.x_NoText gl_number_read_NoText d_NoText)) qss_nil)
      (qss_one (qs_ret (qe_callTy call_intS gl_number_read_int T.n_int b_int (qa_cons v_number_read_0 qa_nil) m_int d_int))))), ?_⟩
  have hl := len_cs x
  refine ⟨_, rfl, rfl, x, _, rfl, rfl, _, rfl, ?_⟩
  rw [starts_minus]
  refine ite2 (fun c => ?_) (fun c => ?_)
  · have e : (cs x).head? = some 45 := of_decide_eq_true c
    obtain ⟨r, er⟩ : ∃ r, cs x = 45 :: r := by
      cases h : cs x with
      | nil => rw [h] at e; cases e
      | cons d r => rw [h] at e; injection e with e; exact ⟨r, by rw [e]⟩
    have h1 : 1 ≤ x.length := by rw [← hl, er]; simp
    have es : cs (Txt.slice x (some 1) none) = r := by rw [slice1 h1, er]; rfl
    have hn : numL (cs x) = if plainL r = true ∧ r ≠ [48] then some (-((PySem.NumText.digitsVal r : Nat) : Int)) else none := by rw [er]; rfl
    refine ⟨_, rfl, 1, rfl, x, rfl, Nat.le_of_lt (line100 hx), ?_⟩
    refine ⟨_, rfl, rfl, _, rfl, ?_⟩
    rw [eqv_cs c_minus0]
    refine ite2 (fun c => ?_) (fun c => ?_)
    · have e : cs x = [45, 48] := of_decide_eq_true c
      exact iteT (qe (by rw [e]; rfl) H (Same.refl H))
    have n0 : r ≠ [48] := fun z => c (decide_eq_true (by rw [er, z]))
    refine ⟨_, rfl, _, rfl, Nat.le_trans (Txt.slice_le x _ _) hx, fun H1 g1 => ⟨_, rfl, ?_⟩⟩
    rw [es]
    refine ite2 (fun c => ?_) (fun c => ?_)
    · have hp : plainL r = false := by simpa using c
      exact qe (by rw [hn, hp]; rfl) H1 g1
    · have hp : plainL r = true := by simpa using c
      rw [if_pos ⟨hp, n0⟩] at hn
      exact ⟨_, rfl, x, _, rfl, (num_text hn).1, (num_text hn).2, q _ H1 hn g1⟩
  · have e : (cs x).head? ≠ some 45 := fun z => c (decide_eq_true z)
    have hn := num_digits (l := cs x) fun r z => e (by rw [z]; rfl)
    refine ⟨_, rfl, ?_⟩
    refine ⟨_, rfl, rfl, _, rfl, ?_⟩
    rw [eqv_cs c_minus0]
    refine ite2 (fun c => ?_) (fun c => ?_)
    · have e' : cs x = [45, 48] := of_decide_eq_true c
      exact absurd (by rw [e']; rfl) e
    refine ⟨_, rfl, x, rfl, hx, fun H1 g1 => ⟨_, rfl, ?_⟩⟩
    refine ite2 (fun c => ?_) (fun c => ?_)
    · have hp : plainL (cs x) = false := by simpa using c
      exact qe (by rw [hn, hp]; rfl) H1 g1
    · have hp : plainL (cs x) = true := by simpa using c
      rw [if_pos hp] at hn
      exact ⟨_, rfl, x, _, rfl, (num_text hn).1, (num_text hn).2, q _ H1 hn g1⟩
theorem split_len (x y p : Str) (h : p ∈ Txt.split x y) : p.length ≤ x.length := by
  have e := StrLaws.join_split x y
  rw [← e]
  generalize Txt.split x y = l at h
  induction l with
  | nil => cases h
  | cons a r ih =>
    cases r with
    | nil => rw [List.mem_singleton.mp h]; exact Nat.le_refl _
    | cons b r =>
      show p.length ≤ (a ++ y ++ Str.join y (b :: r)).length
      rw [Str.length_append, Str.length_append]
      rcases List.mem_cons.mp h with h | h
      · subst h; omega
      · have := ih h; omega
theorem ok_fraction_read {P : Program} {w : World} {K : PySem.W.Frag} {mg : Str → Option Value} {base : Heap} {f : Addr} {fd : FuncData} {cNoText : Addr} (T : Txt K mg cNoText) (F : Fun K "fraction_read" "fraction_read" s_fraction_read f fd) (c_common_divisor : Cal P w K mg base (CXe P w) 1 "common_divisor" ["one", "other"] sp_common_divisor) (c_number_read : Cal P w K mg base (CXe P w) 2 "number_read" ["text"] (sp_number_read cNoText)) : FnOk P w K mg base (CXe P w) 3 f fd ["text"] (sp_fraction_read cNoText) := by
  refine F.okE sc_fraction_read (fun vs H Q E h => ?_) (fun cdv A outer s H vs Q E hr h => ?_)
  · obtain ⟨x, rfl, hx, q, qe⟩ := h
    rfl
  obtain ⟨x, rfl, hx, q, qe⟩ := h
  have hu := hr.units
  refine ⟨_, (qss_cons (a_fraction_read_1 (qe_bm PySem.F.plainAttrs_str PySem.F.slot_str_split PySem.F.type_str_split mt_str_split v_fraction_read_0 (qa_cons qe_str qa_nil)))
      (qss_cons (qs_if (qt_cmpR op_gt (qe_callB call_len_seq gl_fraction_read_len T.n_len b_len (qa_cons v_fraction_read_1 qa_nil) m_len d_len) qe_int (nomark _)) (qss_one (qs_raise T.x_NoText gl_fraction_read_NoText d_NoText)) qss_nil)
      (qss_cons (a_fraction_read_2 (qe_fn c_number_read (hr.mono (by decide)) passE (qa_cons (qe_ix ix_list v_fraction_read_1 qe_int (fun _ _ => rfl)) qa_nil) gl_fraction_read_number_read d_number_read))
      (qss_cons (qs_if (qt_cmpR op_eq (qe_callB call_len_seq gl_fraction_read_len T.n_len b_len (qa_cons v_fraction_read_1 qa_nil) m_len d_len) qe_int (nomark _)) (qss_one (qs_ret (qe_tupS (qa_cons v_fraction_read_2 (qa_cons qe_int qa_nil))))) qss_nil)
      (qss_cons (a_fraction_read_3 (qe_fn c_number_read (hr.mono (by decide)) passE (qa_cons (qe_ix ix_list v_fraction_read_1 qe_int (fun _ _ => rfl)) qa_nil) gl_fraction_read_number_read d_number_read))
      (qss_cons (qs_if (QW.pt (qw_or (qt_cmpR op_lt v_fraction_read_3 qe_int (nomark _)) (qw_or1 (qt_cmpR op_ne (qe_fn c_common_divisor (hr.mono (by decide)) passE (qa_cons v_fraction_read_3 (qa_cons v_fraction_read_2 qa_nil)) gl_fraction_read_common_divisor d_common_divisor) qe_int (nomark _))))) (qss_one (qs_raise T.x_NoText gl_fraction_read_NoText d_NoText)) qss_nil)
      (qss_one (qs_ret (qe_tupS (qa_cons v_fraction_read_2 (qa_cons v_fraction_read_3 qa_nil))))))))))), ?_⟩
  refine ⟨_, rfl, rfl, x, _, rfl, rfl, by decide +kernel, Nat.le_trans (show x.length + 2 ≤ 100002 by omega) (by decide), fun p1 H1 g1 e1 => ?_⟩
  have hps := split_cs x
  have hlen : ∀ p ∈ Txt.split x (Str.ofString "/"), p.length ≤ 100000 := fun p hp => Nat.le_trans (split_len x _ p hp) hx
  have hne := split_ne x (Str.ofString "/")
  generalize Txt.split x (Str.ofString "/") = ps at e1 hps hlen hne
  refine ⟨_, rfl, p1, _, rfl, .inl (SqL.of e1), _, _, rfl, rfl, _, rfl, ?_⟩
  rw [List.length_map]
  match ps, hne with
  | [a], _ =>
    have hf : fracL (cs x) = (numL (cs a)).map fun n => (n, 1) := by unfold fracL; rw [← hps]; rfl
    refine iteF2 rfl ?_
    refine ⟨_, rfl, ixl_back e1 at0 ?_⟩
    refine ⟨a, rfl, hlen a (by simp), fun n H2 hn g2 => ?_, fun hn H2 g2 => qe (by rw [hf, hn]; rfl) H2 (g1.trans g2)⟩
    have hf : fracL (cs x) = some (n, 1) := by rw [hf, hn]; rfl
    refine ⟨_, rfl, p1, _, rfl, .inl (SqL.of (g2 _ _ e1)), rfl, _, rfl, iteT2 rfl ?_⟩
    exact ⟨_, rfl, (by show 2 ≤ sizeLine; decide), fun p3 H3 g3 e3 => q n 1 p3 H3 hf (g1.trans (g2.trans g3)) e3⟩
  | [a, b], _ =>
    have hf : fracL (cs x) = (match numL (cs a), numL (cs b) with
      | some t, some u => if 2 ≤ u ∧ Int.gcd u t = 1 then some (t, u) else none
      | _, _ => none) := by unfold fracL; rw [← hps]; rfl
    refine iteF2 rfl ?_
    refine ⟨_, rfl, ixl_back e1 at0 ?_⟩
    refine ⟨a, rfl, hlen a (by simp), fun n H2 hn g2 => ?_, fun hn H2 g2 => qe (by rw [hf, hn]) H2 (g1.trans g2)⟩
    refine ⟨_, rfl, p1, _, rfl, .inl (SqL.of (g2 _ _ e1)), rfl, _, rfl, iteF2 rfl ?_⟩
    refine ⟨_, rfl, ixl_back (g2 _ _ e1) at1 ?_⟩
    refine ⟨b, rfl, hlen b (by simp), fun u H3 hu g3 => ?_, fun hu H3 g3 => qe (by rw [hf, hn, hu]) H3 (g1.trans (g2.trans g3))⟩
    have hf : fracL (cs x) = if 2 ≤ u ∧ Int.gcd u n = 1 then some (n, u) else none := by rw [hf, hn, hu]
    have g13 := g1.trans (g2.trans g3)
    refine ⟨_, rfl, _, _, rfl, rfl, _, rfl, ?_⟩
    refine ite2 (fun c => ?_) (fun c => ?_)
    · have hc : u < 2 := of_decide_eq_true c
      exact iteT (qe (by rw [hf, if_neg (by omega)]) H3 g13)
    have h2 : 2 ≤ u := by
      have : ¬ u < 2 := fun z => c (decide_eq_true z)
      omega
    refine ⟨_, rfl, _, rfl, u, n, rfl, rfl, _, rfl, ?_⟩
    refine ite2 (fun c => ?_) (fun c => ?_)
    · have hc : Int.gcd u n ≠ 1 := fun z => by
        rw [z] at c
        exact absurd c (by decide)
      exact qe (by rw [hf, if_neg (fun z => hc z.2)]) H3 g13
    have hg : Int.gcd u n = 1 := by
      have c' : decide (V.int ((Int.gcd u n : Nat) : Int) = V.int 1) = true := by simpa using c
      have := V.int.inj (of_decide_eq_true c')
      omega
    exact ⟨_, rfl, _, rfl, (by show 2 ≤ sizeLine; decide), fun p4 H4 g4 e4 => q n u p4 H4 (by rw [hf, if_pos ⟨h2, hg⟩]) (g13.trans g4) e4⟩
  | a :: b :: c :: r, _ =>
    have hf : fracL (cs x) = none := by unfold fracL; rw [← hps]; rfl
    refine iteT2 (decide_eq_true (by simp; omega)) (qe hf H1 g1)

/-! ### written -/
def sp_number_written : Sp := fun vs H Q _ => ∃ n : Int, vs = [.int n] ∧ n.natAbs < 10 ^ 600 ∧ ∀ H', Same H H' → Q (.str (tx n)) H'
theorem block64 : (10 : Int) ^ (64 : Int).toNat = ((10 ^ 64 : Nat) : Int) := by decide +kernel
theorem log_small {m : Nat} (h : m < 10 ^ 64) : m.log2 < 1920 := by
  by_cases h0 : m = 0
  · subst h0; decide
  · exact (Nat.log2_lt h0).mpr (Nat.lt_of_lt_of_le h (by decide +kernel))
theorem same_over {H H' : Hp} {l : Addr} {o : HO} (g : Same H H') (h : H l = none) : Same H (upd H' l o) := fun k u e => by
  rw [upd_ne (fun z => by rw [z, h] at e; cases e)]
  exact g k u e
theorem flat64 : ∀ (ps : List Str), (∀ p ∈ ps, p.length = 64) → ((ps.map cs).flatten).length = 64 * ps.length
  | [], _ => rfl
  | p :: ps, h => by
    rw [List.map_cons, List.flatten_cons, List.length_append, len_cs, h p (by simp), flat64 ps (fun q hq => h q (List.mem_cons_of_mem _ hq)), List.length_cons]
    omega
theorem join_done {ys : List Str} {t : Str} (h : (ys.map cs).flatten = cs t) : Txt.join (Str.ofString "") ys = t := eq_cs (by rw [cs_join, h])
theorem sum_len : ∀ ys : List Str, (ys.map (·.length)).sum = ((ys.map cs).flatten).length
  | [] => rfl
  | y :: ys => by rw [List.map_cons, List.sum_cons, List.map_cons, List.flatten_cons, List.length_append, len_cs, sum_len ys]
theorem l_none : (Str.ofString "").length = 0 := by decide +kernel
theorem dl_cut64 {m : Nat} (h : 10 ^ 64 ≤ m) : dl m = dl (m / 10 ^ 64) ++ fw 64 (m % 10 ^ 64) := dl_cut h
theorem ok_number_written {P : Program} {w : World} {K : PySem.W.Frag} {mg : Str → Option Value} {base : Heap} {f : Addr} {fd : FuncData} {cNoText : Addr} (T : Txt K mg cNoText) (F : Fun K "number_written" "number_written" s_number_written f fd) : FnOk P w K mg base (CXe P w) 1 f fd ["number"] sp_number_written := by
  refine F.okN sc_number_written (fun vs H Q E h => ?_) (fun cdv A outer s H vs Q E hr h => ?_)
  · obtain ⟨n, rfl, hn, q⟩ := h
    rfl
  obtain ⟨n, rfl, hn, q⟩ := h
  have hu := hr.units
  refine ⟨_, (qss_cons (a_number_written_1 (qe_op op_pow qe_int qe_int))
      (qss_cons (a_number_written_2 (qe_callB call_abs gl_number_written_abs T.n_abs b_abs (qa_cons v_number_written_0 qa_nil) m_abs d_abs))
      (qss_cons (a_number_written_3 (qe_lst qa_nil))
      (qss_cons (qs_while PassesOwn.never (qt_cmpR op_ge v_number_written_2 v_number_written_1 (nomark _)) (qss_cons (qs_expr (qe_bm PySem.F.plainAttrs_list PySem.F.slot_list_append PySem.F.type_list_append mt_list_append v_number_written_3 (qa_cons (qe_bm PySem.F.plainAttrs_str PySem.F.slot_str_zfill PySem.F.type_str_zfill mt_str_zfill (qe_callTy call_str_int gl_number_written_str T.n_str b_str (qa_cons (qe_op op_mod v_number_written_2 v_number_written_1) qa_nil) m_str d_str) (qa_cons (qe_globI gl_number_written_BLOCK_FIGURES T.g_BLOCK_FIGURES d_BLOCK_FIGURES) qa_nil)) qa_nil)))
      (qss_one (a_number_written_2 (qe_op op_fdivP v_number_written_2 v_number_written_1)))))
      (qss_cons (qs_expr (qe_bm PySem.F.plainAttrs_list PySem.F.slot_list_append PySem.F.type_list_append mt_list_append v_number_written_3 (qa_cons (qe_callTy call_str_int gl_number_written_str T.n_str b_str (qa_cons v_number_written_2 qa_nil) m_str d_str) qa_nil)))
      (qss_cons (qs_if (qt_cmpR op_lt v_number_written_0 qe_int (nomark _)) (qss_one (qs_expr (qe_bm PySem.F.plainAttrs_list PySem.F.slot_list_append PySem.F.type_list_append mt_list_append v_number_written_3 (qa_cons qe_str qa_nil)))) qss_nil)
      (qss_cons (qs_expr (qe_bm0 PySem.F.plainAttrs_list PySem.F.slot_list_reverse PySem.F.type_list_reverse mt_list_reverse v_number_written_3))
      (qss_one (qs_ret (qe_bm PySem.F.plainAttrs_str PySem.F.slot_str_join PySem.F.type_str_join mt_str_join qe_str (qa_cons v_number_written_3 qa_nil))))))))))), ?_⟩
  refine ⟨_, _, rfl, rfl, ⟨by decide, by decide, by decide⟩, ?_⟩
  dsimp only
  rw [block64]
  have hB : (0 : Int) < ((10 ^ 64 : Nat) : Int) := by decide +kernel
  have bB : Bt 9000 ((10 ^ 64 : Nat) : Int) := bt_abs (Nat.lt_of_lt_of_le (show (10 : Nat) ^ 64 < 2 ^ 300 by decide +kernel) (Nat.pow_le_pow_right (by decide) (by decide)))
  have hlB : ∀ m : Nat, m < 10 ^ 64 → m.log2 < 1920 := fun m => log_small
  have hcut : ∀ m : Nat, 10 ^ 64 ≤ m → dl m = dl (m / 10 ^ 64) ++ fw 64 (m % 10 ^ 64) := fun m => dl_cut64
  have hzf : ∀ (x : Str) (m : Nat), cs x = dl m → m < 10 ^ 64 → cs (Txt.zfill x 64) = fw 64 m := fun x m => zfill_num
  have hln := dl_len (k := 600) (by decide) hn
  have hBp : 2 ≤ 10 ^ 64 := by decide +kernel
  generalize 10 ^ 64 = B at hB bB hlB hcut hzf hBp ⊢
  refine ⟨_, rfl, n, rfl, (by show 0 ≤ sizeLine; decide), fun l hl => ?_⟩
  have ha : (if n < 0 then -n else n) = ((n.natAbs : Nat) : Int) := by split <;> omega
  dsimp only
  rw [ha]
  refine while_by (fun σ H' => ∃ (r : Nat) (ps : List Str), σ = [some (.int n), some (.int (B : Nat)), some (.int (r : Nat)), some (.ref l)] ∧ Same H H' ∧ H' l = some (.lst (ps.map V.str)) ∧ H l = none ∧ (∀ p ∈ ps, p.length = 64) ∧ dl n.natAbs = dl r ++ ((ps.reverse).map cs).flatten) (fun σ _ => match σ with | [_, _, some (.int r), _] => r.natAbs | _ => 0) ⟨n.natAbs, [], rfl, same_upd hl, upd_same, hl, by simp, by simp⟩ ?_ (fun σ H Q Q' m hh => ?_)
  · rintro σ H' ⟨r, ps, rfl, g, e, hl, h64, hd⟩
    have hpl : 64 * ps.length ≤ 600 := by
      have := congrArg List.length hd
      rw [List.length_append, flat64 ps.reverse (fun p hp => h64 p (List.mem_reverse.mp hp)), List.length_reverse] at this
      omega
    have hsz : ∀ k : Nat, k ≤ 100 → k < sizeLine := fun k hk => line100 (by omega)
    refine ⟨_, rfl, _, rfl, _, _, rfl, rfl, _, rfl, ?_⟩
    refine ite2 (fun c => ?_) (fun c => ?_)
    · have hBr : B ≤ r := by have : (B : Int) ≤ r := of_decide_eq_true c; omega
      have hm : r % B < B := Nat.mod_lt _ (by omega)
      have em : (r : Int) % (B : Int) = ((r % B : Nat) : Int) := (Int.natCast_emod r B).symm
      have ed : (r : Int) / (B : Int) = ((r / B : Nat) : Int) := (Int.natCast_ediv r B).symm
      have hy : cs (Txt.zfill (tx ((r : Int) % (B : Int))) 64) = fw 64 (r % B) := by rw [em]; exact hzf _ _ (cs_num _) hm
      refine ⟨_, rfl, .inl ⟨rfl, _, SqL.of e⟩, _, rfl, _, rfl, _, _, rfl, rfl, hB, _, rfl, by rw [em]; exact hlB _ hm, rfl, _, 64, rfl, rfl, by decide +kernel, l, _, _, rfl, rfl, e, by rw [List.length_map]; exact hsz _ (by omega), ?_⟩
      refine ⟨_, rfl, _, rfl, _, _, rfl, rfl, ⟨hB, bB⟩, ⟨r / B, ps ++ [Txt.zfill (tx ((r : Int) % (B : Int))) 64], (by show [some (V.int n), some (V.int (B : Nat)), some (V.int ((r : Int) / (B : Int))), some (V.ref l)] = _; rw [ed]), same_over g hl, by rw [upd_same, List.map_append]; rfl, hl, ?_, ?_⟩, ?_⟩
      · intro p hp
        rcases List.mem_append.mp hp with hp | hp
        · exact h64 p hp
        · rw [List.mem_singleton.mp hp, ← len_cs, hy, fw_len]
      · rw [hd, hcut r hBr, List.reverse_append, List.map_append, List.flatten_append]
        simp [hy]
      · show ((r : Int) / (B : Int)).natAbs < (r : Int).natAbs
        rw [ed]
        show r / B < r
        exact Nat.div_lt_self (by omega) (by omega)
    · have hBr : r < B := by
        have : ¬ (B : Int) ≤ r := fun z => c (decide_eq_true z)
        omega
      have e1 : (ps.map V.str ++ [V.str (tx (r : Int))]).length ≤ 100 := by rw [List.length_append, List.length_map]; simp; omega
      refine ⟨_, rfl, .inl ⟨rfl, _, SqL.of e⟩, _, rfl, _, rfl, hlB _ hBr, l, _, _, rfl, rfl, e, by rw [List.length_map]; exact hsz _ (by omega), ?_⟩
      refine ⟨_, rfl, _, _, rfl, rfl, _, rfl, ?_⟩
      refine ite2 (fun c => ?_) (fun c => ?_)
      · have hn0 : n < 0 := of_decide_eq_true c
        refine ⟨_, rfl, .inl ⟨rfl, _, SqL.of upd_same⟩, l, _, _, rfl, rfl, upd_same, hsz _ e1, ?_⟩
        refine ⟨_, rfl, .inl ⟨rfl, _, SqL.of upd_same⟩, l, _, rfl, rfl, upd_same, ?_⟩
        have ey : (ps.map V.str ++ [V.str (tx (r : Int))] ++ [V.str (Str.ofString "-")]).reverse = (Str.ofString "-" :: tx (r : Int) :: ps.reverse).map V.str := by simp
        have ef : ((Str.ofString "-" :: tx (r : Int) :: ps.reverse).map cs).flatten = cs (tx n) := by
          rw [cs_tx, if_pos hn0, hd, List.map_cons, List.map_cons, List.flatten_cons, List.flatten_cons, cs_num]
          rfl
        refine ⟨rfl, _, rfl, _, l, _, rfl, rfl, SqL.of (by rw [upd_same, ey]), ?_, ?_⟩
        · rw [sum_len, ef, cs_tx, if_pos hn0, List.length_cons, l_none, Nat.mul_zero]
          omega
        · rw [join_done ef]
          exact q _ (same_over (same_over (same_over g hl) hl) hl)
      · have hn0 : ¬ n < 0 := fun z => c (decide_eq_true z)
        refine ⟨_, rfl, .inl ⟨rfl, _, SqL.of upd_same⟩, l, _, rfl, rfl, upd_same, ?_⟩
        have ey : (ps.map V.str ++ [V.str (tx (r : Int))]).reverse = (tx (r : Int) :: ps.reverse).map V.str := by simp
        have ef : ((tx (r : Int) :: ps.reverse).map cs).flatten = cs (tx n) := by
          rw [cs_tx, if_neg hn0, hd, List.map_cons, List.flatten_cons, cs_num]
        refine ⟨rfl, _, rfl, _, l, _, rfl, rfl, SqL.of (by rw [upd_same, ey]), ?_, ?_⟩
        · rw [sum_len, ef, cs_tx, if_neg hn0, l_none, Nat.mul_zero]
          omega
        · rw [join_done ef]
          exact q _ (same_over (same_over g hl) hl)
  · obtain ⟨v, h1, w, h2, i, j, e1, e2, b, e3, h4⟩ := hh
    exact ⟨v, h1, w, h2, i, j, e1, e2, b, e3, m _ _ h4⟩
/-- a fraction's text -/
def ftx (a b : Int) : Str := if b = 1 then tx a else tx a ++ Str.ofString "/" ++ tx b
theorem c_stroke : cs (Str.ofString "/") = [47] := by decide +kernel
def Fit (n : Int) : Prop := n.natAbs < 10 ^ 600 ∧ n.natAbs.log2 < 1920
theorem tx_len {n : Int} (h : n.natAbs < 10 ^ 600) : (tx n).length ≤ 601 := by
  have := dl_len (k := 600) (by decide) h
  rw [← len_cs, cs_tx]
  split
  · simp; omega
  · omega
theorem frac_ftx {c d : Int} (fc : Fit c) (fd : Fit d) (hd : 1 ≤ d) (hg : Int.gcd c d = 1) : fracL (cs (ftx c d)) = some (c, d) := by
  have lc := dl_len (k := 600) (by decide) fc.1
  have ld := dl_len (k := 600) (by decide) fd.1
  unfold ftx
  by_cases h : d = 1
  · rw [if_pos h, h]; exact frac_one lc
  · rw [if_neg h, cs_app, cs_app, c_stroke, List.append_assoc]
    exact frac_two lc ld (by omega) (by rw [Int.gcd_comm]; exact hg)
theorem ftx_len {c d : Int} (fc : Fit c) (fd : Fit d) : (ftx c d).length ≤ 100000 := by
  have lc := tx_len fc.1
  have ld := tx_len fd.1
  have ls : (Str.ofString "/").length = 1 := by decide +kernel
  unfold ftx
  split
  · omega
  · rw [Str.length_append, Str.length_append]; omega
theorem fit_bt {n : Int} (h : Bt 410 n) : Fit n := by
  have h1 := h.abs
  refine ⟨Nat.lt_of_lt_of_le h1 (by decide +kernel), ?_⟩
  by_cases h0 : n.natAbs = 0
  · rw [h0]; decide
  · exact (Nat.log2_lt h0).mpr (Nat.lt_of_lt_of_le h1 (Nat.pow_le_pow_right (by decide) (by decide)))
def sp_fraction_written : Sp := fun vs H Q _ => ∃ (p : Addr) (a b : Int), vs = [.ref p] ∧ H p = some (.tup [.int a, .int b]) ∧ Fit a ∧ Fit b ∧ ∀ H', Same H H' → Q (.str (ftx a b)) H'
theorem ok_fraction_written {P : Program} {w : World} {K : PySem.W.Frag} {mg : Str → Option Value} {base : Heap} {f : Addr} {fd : FuncData} {cNoText : Addr} (T : Txt K mg cNoText) (F : Fun K "fraction_written" "fraction_written" s_fraction_written f fd) (c_number_written : Cal P w K mg base (CXe P w) 1 "number_written" ["number"] sp_number_written) : FnOk P w K mg base (CXe P w) 2 f fd ["fraction"] sp_fraction_written := by
  refine F.okN sc_fraction_written (fun vs H Q E h => ?_) (fun cdv A outer s H vs Q E hr h => ?_)
  · obtain ⟨p, a, b, rfl, h, fa, fb, q⟩ := h
    rfl
  obtain ⟨p, a, b, rfl, h, fa, fb, q⟩ := h
  have hu := hr.units
  refine ⟨_, (qss_cons (a_fraction_written_1 (qe_fn c_number_written (hr.mono (by decide)) passE0 (qa_cons (qe_ix ix_tup v_fraction_written_0 qe_int (fun _ _ => rfl)) qa_nil) gl_fraction_written_number_written d_number_written))
      (qss_cons (qs_if (qt_cmpR op_eq (qe_ix ix_tup v_fraction_written_0 qe_int (fun _ _ => rfl)) qe_int (nomark _)) (qss_one (qs_ret v_fraction_written_1)) qss_nil)
      (qss_cons (a_fraction_written_2 (qe_fn c_number_written (hr.mono (by decide)) passE0 (qa_cons (qe_ix ix_tup v_fraction_written_0 qe_int (fun _ _ => rfl)) qa_nil) gl_fraction_written_number_written d_number_written))
      (qss_one (qs_ret (qe_fstr3 v_fraction_written_1 v_fraction_written_2)))))), ?_⟩
  walk_at "rd"
  refine ⟨fa.1, fun H1 g1 => ?_⟩
  walk_at "rd"
  refine ite2 (fun c => ?_) (fun c => ?_)
  · have hb : b = 1 := V.int.inj (of_decide_eq_true c)
    have z := q H1 g1
    unfold ftx at z
    rw [if_pos hb] at z
    exact ⟨_, rfl, z⟩
  · have hb : b ≠ 1 := fun z => c (decide_eq_true (by rw [z]))
    walk_at "rd"
    refine ⟨fb.1, fun H2 g2 => ?_⟩
    have z := q H2 (g1.trans g2)
    unfold ftx at z
    rw [if_neg hb] at z
    have la := tx_len fa.1
    have lb := tx_len fb.1
    exact ⟨_, rfl, _, rfl, by omega, _, rfl, _, rfl, by omega, z⟩
def sp_law_text : Sp := fun vs H Q _ => ∃ (p : Addr) (a b : Int), vs = [.ref p] ∧ H p = some (.tup [.int a, .int b]) ∧ Fit a ∧ Fit b ∧ Q (.str (ftx a b)) H
theorem ok_law_text {P : Program} {w : World} {K : PySem.W.Frag} {mg : Str → Option Value} {base : Heap} {f : Addr} {fd : FuncData} {cNoText : Addr} (T : Txt K mg cNoText) (F : Fun K "_law_text" "_law_text" s_law_text f fd) : FnOk P w K mg base (CXe P w) 1 f fd ["made"] sp_law_text := by
  refine F.okN sc_law_text (fun vs H Q E h => ?_) (fun cdv A outer s H vs Q E hr h => ?_)
  · obtain ⟨p, a, b, rfl, h, fa, fb, q⟩ := h
    rfl
  obtain ⟨p, a, b, rfl, h, fa, fb, q⟩ := h
  have hu := hr.units
  refine ⟨_, (qss_cons (qs_if (qt_cmpR op_eq (qe_ix ix_tup v_law_text_0 qe_int (fun _ _ => rfl)) qe_int (nomark _)) (qss_one (qs_ret (qe_callTy call_str_int gl_law_text_str T.n_str b_str (qa_cons (qe_ix ix_tup v_law_text_0 qe_int (fun _ _ => rfl)) qa_nil) m_str d_str))) qss_nil)
      (qss_one (qs_ret (qe_op op_add_str (qe_op op_add_str (qe_callTy call_str_int gl_law_text_str T.n_str b_str (qa_cons (qe_ix ix_tup v_law_text_0 qe_int (fun _ _ => rfl)) qa_nil) m_str d_str) qe_str) (qe_callTy call_str_int gl_law_text_str T.n_str b_str (qa_cons (qe_ix ix_tup v_law_text_0 qe_int (fun _ _ => rfl)) qa_nil) m_str d_str))))), ?_⟩
  walk_at "rd"
  have la : (Str.ofString (toString a)).length ≤ 601 := tx_len fa.1
  have lb : (Str.ofString (toString b)).length ≤ 601 := tx_len fb.1
  have ls : (Str.ofString "/").length = 1 := by decide +kernel
  have z : sizeLine = 16777216 := sizeLine_eq
  unfold ftx at q
  refine ite2 (fun c => ?_) (fun c => ?_)
  · have hb : b = 1 := V.int.inj (of_decide_eq_true c)
    rw [if_pos hb] at q
    walk_at "rd"
    exact ⟨fa.2, q⟩
  · have hb : b ≠ 1 := fun z => c (decide_eq_true (by rw [z]))
    rw [if_neg hb] at q
    walk_at "rd"
    refine ⟨fa.2, _, _, rfl, rfl, by omega, ?_⟩
    walk_at "rd"
    refine ⟨fb.2, _, _, rfl, rfl, by rw [Str.length_append]; omega, q⟩
def Is (H : Hp) (v : V) : Prop := ∃ (p : Addr) (a b : Int), v = .ref p ∧ H p = some (.tup [.int a, .int b]) ∧ 1 ≤ b ∧ Int.gcd a b = 1 ∧ Bt 410 a ∧ Bt 410 b
theorem Is.same {H H' : Hp} {v : V} (g : Same H H') (h : Is H v) : Is H' v := by
  obtain ⟨p, a, b, e, h1, h2⟩ := h
  exact ⟨p, a, b, e, g _ _ h1, h2⟩
theorem is_frc {H : Hp} {p : Addr} {a b : Int} (h : H p = some (.tup [.int a, .int b])) (f : Frc a b) : Is H (.ref p) := ⟨p, a, b, rfl, h, f.pos, f.cop, f.ba.le, f.bb.le⟩
def sp_law (K : PySem.W.Frag) : Sp := fun vs H Q _ => ∃ (a : Addr) (ns : List Int), vs = [.ref a] ∧ SqL K H a (ns.map V.int) ∧ ns.length ≤ 63 ∧ ∀ H', Q (.bl true) H'
theorem ok_law {P : Program} {w : World} {K : PySem.W.Frag} {mg : Str → Option Value} {base : Heap} {f : Addr} {fd : FuncData} {cNoText : Addr} (T : Txt K mg cNoText) (F : Fun K "law" "law" s_law f fd) (c_fraction_written : Cal P w K mg base (CXe P w) 2 "fraction_written" ["fraction"] sp_fraction_written) (c_fraction_read : Cal P w K mg base (CXe P w) 3 "fraction_read" ["text"] (sp_fraction_read cNoText)) (c__law_stir : Cal P w K mg base (CXe P w) 1 "_law_stir" ["cell", "k"] sp_law_stir) (c__law_fraction : Cal P w K mg base (CXe P w) 2 "_law_fraction" ["cell", "k"] sp_law_fraction) (c__law_is : Cal P w K mg base (CXe P w) 2 "_law_is" ["found", "top", "bottom"] sp_law_is) (c__law_text : Cal P w K mg base (CXe P w) 1 "_law_text" ["made"] sp_law_text) : FnOk P w K mg base (CXe P w) 4 f fd ["script"] (sp_law K) := by
  refine F.okN sc_law (fun vs H Q E h => ?_) (fun cdv A outer s H vs Q E hr h => ?_)
  · obtain ⟨a, ns, rfl, hS, hlen, q⟩ := h
    rfl
  obtain ⟨a, ns, rfl, hS, hlen, q⟩ := h
  have hu := hr.units
  refine ⟨_, (qss_cons (qs_for PassesOwn.never rfl (qi_list (qe_op op_catS (qe_slice sl_listS v_law_0 qo_none (qo_some qe_int)) (qe_lstS (qa_cons qe_int qa_nil)))) n_law_1 (qss_cons (qs_for PassesOwn.never rfl (qi_list (qe_lstS (qa_cons (qe_fn c__law_fraction (hr.mono (by decide)) passE0 (qa_cons v_law_1 (qa_cons qe_int qa_nil)) gl_law__law_fraction d__law_fraction) (qa_cons (qe_tupS (qa_cons (qe_ix ix_tup (qe_fn c__law_fraction (hr.mono (by decide)) passE0 (qa_cons v_law_1 (qa_cons qe_int qa_nil)) gl_law__law_fraction d__law_fraction) qe_int (fun _ _ => rfl)) (qa_cons qe_int qa_nil))) qa_nil)))) n_law_2 (qss_cons (a_law_3 (qe_fn c_fraction_written (hr.mono (by decide)) passE0 (qa_cons v_law_2 qa_nil) gl_law_fraction_written d_fraction_written))
      (qss_cons (qs_if (QW.pt (qw_or (qt_not (qt_val (qe_callB call_isi gl_law_isinstance T.n_isinstance b_isinstance (qa_cons v_law_3 (qa_cons (qe_bltn (v := .ty "str") gl_law_str T.n_str b_str rfl m_str d_str) qa_nil)) m_isinstance d_isinstance))) (qw_or1 (qt_cmpR op_ne v_law_3 (qe_fn c__law_text (hr.mono (by decide)) passE0 (qa_cons v_law_2 qa_nil) gl_law__law_text d__law_text) (nomark _))))) (qss_one (qs_ret qe_bl)) qss_nil)
      (qss_cons (a_law_4 (qe_fn c_fraction_read (hr.mono (by decide)) passE0 (qa_cons v_law_3 qa_nil) gl_law_fraction_read d_fraction_read))
      (qss_one (qs_if (QW.pt (qw_or (qt_not (qt_val (qe_fn c__law_is (hr.mono (by decide)) passE0 (qa_cons v_law_4 (qa_cons (qe_ix ix_tup v_law_2 qe_int (fun _ _ => rfl)) (qa_cons (qe_ix ix_tup v_law_2 qe_int (fun _ _ => rfl)) qa_nil))) gl_law__law_is d__law_is))) (qw_or1 (qt_cmpR (op_neD hu) v_law_4 v_law_2 (nomark _))))) (qss_one (qs_ret qe_bl)) qss_nil))))))
      (qss_cons (a_law_5 (qe_op op_add (qe_op op_pow qe_int qe_int) (qe_op op_mod (qe_op op_fdivP (qe_fn c__law_stir (hr.mono (by decide)) passE0 (qa_cons v_law_1 (qa_cons qe_int qa_nil)) gl_law__law_stir d__law_stir) qe_int) (qe_op op_pow qe_int qe_int))))
      (qss_one (qs_for PassesOwn.never rfl (qi_list (qe_lstS (qa_cons (qe_tupS (qa_cons v_law_5 (qa_cons qe_int qa_nil))) (qa_cons (qe_tupS (qa_cons (qe_un un_neg qe_int) (qa_cons v_law_5 qa_nil))) (qa_cons (qe_tupS (qa_cons (qe_op op_mulB v_law_5 (qe_op op_pow qe_int qe_int)) (qa_cons (qe_op op_add (qe_op op_mulB v_law_5 (qe_op op_pow qe_int qe_int)) qe_int) qa_nil))) qa_nil))))) n_law_2 (qss_one (qs_if (QW.pt (qw_or (qt_cmpR op_ne (qe_fn c_fraction_written (hr.mono (by decide)) passE0 (qa_cons v_law_2 qa_nil) gl_law_fraction_written d_fraction_written) (qe_fn c__law_text (hr.mono (by decide)) passE0 (qa_cons v_law_2 qa_nil) gl_law__law_text d__law_text) (nomark _)) (qw_or1 (qt_cmpR (op_neD hu) (qe_fn c_fraction_read (hr.mono (by decide)) passE0 (qa_cons (qe_fn c__law_text (hr.mono (by decide)) passE0 (qa_cons v_law_2 qa_nil) gl_law__law_text d__law_text) qa_nil) gl_law_fraction_read d_fraction_read) v_law_2 (nomark _))))) (qss_one (qs_ret qe_bl)) qss_nil)))))))
      (qss_one (qs_ret qe_bl))), ?_⟩
  obtain ⟨ms, ec, hml, -⟩ := cut_ints ns none (some 100)
  refine ⟨_, rfl, _, rfl, a, _, rfl, hS, fun p1 H1 g1 e1 => ⟨(by show 1 ≤ sizeLine; decide), fun p2 H2 g2 e2 => ?_⟩⟩
  rw [ec] at e1
  refine ⟨p1, p2, _, _, rfl, rfl, g2 _ _ e1, e2, by rw [List.length_map, List.length_singleton]; exact Nat.le_of_lt (small1000 (by omega)), fun p3 H3 g3 e3 => ⟨p3, rfl, ⟨_, SqL.of e3⟩, ?_⟩⟩
  have e3' : H3 p3 = some (.lst ((ms ++ [0]).map V.int)) := by rw [e3]; simp
  refine for_list (K := K) (a := p3) (xs := (ms ++ [0]).map V.int) (fun _ σ H' => Same H3 H' ∧ ∃ c m f b r : Option V, σ = [some (.ref a), c, m, f, b, r]) ⟨Same.refl _, _, _, _, _, _, rfl⟩ (fun _ _ _ _ h => SqL.of (h.1 _ _ e3')) ?_ ?_
  case refine_2 =>
    rintro σ H' ⟨g, c, m, f', b, r, rfl⟩
    exact q H'
  rintro i x σ H4 hx ⟨g4, c, m, f', b, r, rfl⟩
  obtain ⟨z, -, rfl⟩ := mem_ints hx
  refine ⟨_, rfl, z, 0, rfl, bt_k (by decide +kernel), fun x1 x2 q1 H5 fr1 g5 e5 => ?_⟩
  refine ⟨_, rfl, z, 1, rfl, bt_k (by decide +kernel), fun y1 y2 q2 H6 fr2 g6 e6 => ?_⟩
  refine ⟨_, _, _, _, rfl, rfl, SqT.of e6, at0, (by show 2 ≤ sizeLine; decide), fun q3 H7 g7 e7 => ⟨(by show 2 ≤ sizeLine; decide), fun q4 H8 g8 e8 => ⟨q4, rfl, ⟨_, SqL.of e8⟩, ?_⟩⟩⟩
  have hall : ∀ v ∈ [V.ref q1, V.ref q3], Is H8 v := by
    intro v hv
    rcases List.mem_cons.mp hv with rfl | hv
    · exact is_frc (by walk_at "hp") fr1
    · rw [List.mem_singleton.mp hv]
      exact ⟨q3, y1, 1, rfl, by walk_at "hp", by decide, Int.gcd_one_right _, fr2.ba.le, bt_abs (by decide +kernel)⟩
  have g48 : Same H4 H8 := g5.trans (g6.trans (g7.trans g8))
  clear g5 g6 g7 g8 e5 e6 e7
  refine for_list (K := K) (a := q4) (xs := [V.ref q1, V.ref q3]) (fun _ σ H' => Same H8 H' ∧ ∃ m f b : Option V, σ = [some (.ref a), some (.int z), m, f, b, r]) ⟨Same.refl _, _, _, _, rfl⟩ (fun _ _ _ _ h => SqL.of (h.1 _ _ e8)) ?_ ?_
  · rintro j v σ H9 hv ⟨g9, m', f2, b', rfl⟩
    obtain ⟨pm, c1, d1, rfl, ep, hd, hg, bc, bd⟩ := (hall v (List.mem_of_getElem? hv)).same g9
    have fc := fit_bt bc
    have fd' := fit_bt bd
    refine ⟨_, rfl, pm, c1, d1, rfl, ep, fc, fd', fun H10 g10 => ?_⟩
    refine ⟨_, rfl, _, "str", _, true, rfl, .str _, rfl, _, rfl, iteF ?_⟩
    refine ⟨_, rfl, _, rfl, pm, c1, d1, rfl, g10 _ _ ep, fc, fd', rfl, _, rfl, iteNS rfl ?_⟩
    refine ⟨_, rfl, _, rfl, ftx_len fc fd', fun a1 b1 pp H11 hf g11 e11 => ?_, fun hf => ?_⟩
    · rw [frac_ftx fc fd' hd hg] at hf
      cases hf
      walk_at "rd"
      refine ⟨_, _, _, _, _, rfl, e11, bc.le, bd.le, bc.le, bd.le, hd, hg, rfl, _, rfl, iteF ?_⟩
      walk_at "rd"
      refine ne_back e11 (by walk_at "hp") ⟨_, rfl, iteNS ⟨rfl, rfl⟩ ?_⟩
      exact ⟨g9.trans (g10.trans g11), _, _, _, rfl⟩
    · rw [frac_ftx fc fd' hd hg] at hf
      cases hf
  rintro σ H9 ⟨g9, m', f2, b', rfl⟩
  walk_at "rd"
  refine ⟨bt_k (by decide +kernel), fun r2 hr0 hr1 => ?_⟩
  refine ⟨_, _, rfl, rfl, ⟨by decide, bt_small (by decide) (by decide)⟩, _, _, rfl, rfl, ⟨by decide, by decide, by decide⟩, _, _, rfl, rfl, (by show (0 : Int) < 10 ^ (9 : Int).toNat; decide +kernel), _, _, rfl, rfl, ?_⟩
  have e60 : (10 : Int) ^ (60 : Int).toNat = 1000000000000000000000000000000000000000000000000000000000000 := by decide +kernel
  have e9 : (10 : Int) ^ (9 : Int).toNat = 1000000000 := by decide +kernel
  have hfar : ∃ far : Int, (10 : Int) ^ (60 : Int).toNat + r2 / 7 % (10 : Int) ^ (9 : Int).toNat = far ∧ 1000000000000000000000000000000000000000000000000000000000000 ≤ far ∧ far ≤ 1000000000000000000000000000000000000000000000000001000000000 := ⟨_, rfl, by rw [e60, e9]; omega, by rw [e60, e9]; omega⟩
  obtain ⟨far, ef, hf1, hf2⟩ := hfar
  dsimp only
  rw [ef]
  clear ef
  have bfar : Bt 202 far := bt_abs (Nat.lt_of_lt_of_le (show far.natAbs < 2000000000000000000000000000000000000000000000000000000000000 by omega) (by decide +kernel))
  have b60 : Bt 202 ((10 : Int) ^ (60 : Int).toNat) := by rw [e60]; exact bt_abs (by decide +kernel)
  have bone : Bt 202 (1 : Int) := bt_abs (by decide +kernel)
  have bmul := bfar.mul b60
  have bsuc : Bt 410 (far * (10 : Int) ^ (60 : Int).toNat + 1) := (Bt.add bmul bone).le
  have hm1 : 1 ≤ far * (10 : Int) ^ (60 : Int).toNat + 1 := by
    have := Int.mul_pos (show 0 < far by omega) (show (0 : Int) < (10 : Int) ^ (60 : Int).toNat by rw [e60]; decide)
    omega
  have hgc : Int.gcd (far * (10 : Int) ^ (60 : Int).toNat) (far * (10 : Int) ^ (60 : Int).toNat + 1) = 1 := by
    rw [Int.gcd_self_add_right, Int.gcd_one_right]
  walk_at "rd"
  refine ⟨(by show 2 ≤ sizeLine; decide), fun t1 H10 g10 e10 => ?_⟩
  walk_at "rd"
  refine ⟨(by show 2 ≤ sizeLine; decide), fun t2 H11 g11 e11 => ?_⟩
  walk_at "rd"
  refine ⟨(by show 2 ≤ sizeLine; decide), fun t3 H12 g12 e12 => ?_⟩
  refine ⟨(by show 3 ≤ sizeLine; decide), fun t4 H13 g13 e13 => ⟨t4, rfl, ⟨_, SqL.of e13⟩, ?_⟩⟩
  have hall : ∀ v ∈ [V.ref t1, V.ref t2, V.ref t3], Is H13 v := by
    intro v hv
    rcases List.mem_cons.mp hv with rfl | hv
    · exact ⟨t1, far, 1, rfl, by walk_at "hp", by decide, Int.gcd_one_right _, bfar.le, bone.le⟩
    rcases List.mem_cons.mp hv with rfl | hv
    · exact ⟨t2, -1, far, rfl, by walk_at "hp", by omega, by rw [Int.neg_gcd, Int.gcd_one_left], bone.neg.le, bfar.le⟩
    · rw [List.mem_singleton.mp hv]
      exact ⟨t3, _, _, rfl, by walk_at "hp", hm1, hgc, bmul.le, bsuc⟩
  have g913 : Same H9 H13 := g10.trans (g11.trans (g12.trans g13))
  clear g10 g11 g12 g13 e10 e11 e12
  refine for_list (K := K) (a := t4) (xs := [V.ref t1, V.ref t2, V.ref t3]) (fun _ σ H' => Same H13 H' ∧ ∃ m : Option V, σ = [some (.ref a), some (.int z), m, f2, b', some (.int far)]) ⟨Same.refl _, _, rfl⟩ (fun _ _ _ _ h => SqL.of (h.1 _ _ e13)) ?_ ?_
  · rintro j v σ H14 hv ⟨g14, m2, rfl⟩
    obtain ⟨pm, c1, d1, rfl, ep, hd, hg, bc, bd⟩ := (hall v (List.mem_of_getElem? hv)).same g14
    have fc := fit_bt bc
    have fd' := fit_bt bd
    refine ⟨_, rfl, pm, c1, d1, rfl, ep, fc, fd', fun H15 g15 => ?_⟩
    refine ⟨_, rfl, pm, c1, d1, rfl, g15 _ _ ep, fc, fd', rfl, _, rfl, iteNS rfl ?_⟩
    refine ⟨_, rfl, pm, c1, d1, rfl, g15 _ _ ep, fc, fd', _, rfl, ftx_len fc fd', fun a1 b1 pp H16 hf g16 e16 => ?_, fun hf => ?_⟩
    · rw [frac_ftx fc fd' hd hg] at hf
      cases hf
      refine ⟨_, rfl, ?_⟩
      refine ne_back e16 (by walk_at "hp") ⟨_, rfl, iteNS ⟨rfl, rfl⟩ ?_⟩
      exact ⟨g14.trans (g15.trans g16), _, rfl⟩
    · rw [frac_ftx fc fd' hd hg] at hf
      cases hf
  rintro σ H14 ⟨g14, m2, rfl⟩
  exact ⟨g4.trans (g48.trans (g9.trans (g913.trans g14))), _, _, _, _, _, rfl⟩
theorem all_mk {l : PySem.W.OpenLaw} {w : World} {K : PySem.W.Frag} {h : Heap} {mg : Str → Option Value} {fa f0 f1 f2 f3 f4 f5 f6 f7 f8 f9 f10 f11 : Addr} (X : K.In h) (G : h.Ns mainGlobals mg) (hfa : mg "law" = some (.ref fa))
    {od0 an0 od1 an1 od2 an2 od3 an3 od4 an4 od5 an5 od6 an6 od7 an7 od8 an8 od9 an9 od10 an10 od11 an11 : Option Addr} {sl0 sl1 sl2 sl3 sl4 sl5 sl6 sl7 sl8 sl9 sl10 sl11 : Array (Option Value)} {oc0 kV0 dc0 pm0 cd0 ct0 oc1 kV1 dc1 pm1 cd1 ct1 oc2 kV2 dc2 pm2 cd2 ct2 oc3 kV3 dc3 pm3 cd3 ct3 oc4 kV4 dc4 pm4 cd4 ct4 oc5 kV5 dc5 pm5 cd5 ct5 oc6 kV6 dc6 pm6 cd6 ct6 oc7 kV7 dc7 pm7 cd7 ct7 oc8 kV8 dc8 pm8 cd8 ct8 oc9 kV9 dc9 pm9 cd9 ct9 oc10 kV10 dc10 pm10 cd10 ct10 oc11 kV11 dc11 pm11 cd11 ct11 : Value}
    (a0 : PySem.W.nsIn K mainGlobals "common_divisor" = some (some (.ref f0))) (l0 : K.lookup f0 = some ⟨oc0, od0, .func (PySem.W.fnOf "common_divisor" "common_divisor" (defArgs s_common_divisor) (defBody s_common_divisor) (defScope s_common_divisor) .none kV0 dc0 pm0 an0 cd0 ct0), sl0⟩) (c0 : PySem.W.codeIn K cd0 "common_divisor" = true) (k0 : PySem.W.keepIn K (.ref f0) = true)
    (a1 : PySem.W.nsIn K mainGlobals "number_written" = some (some (.ref f1))) (l1 : K.lookup f1 = some ⟨oc1, od1, .func (PySem.W.fnOf "number_written" "number_written" (defArgs s_number_written) (defBody s_number_written) (defScope s_number_written) .none kV1 dc1 pm1 an1 cd1 ct1), sl1⟩) (c1 : PySem.W.codeIn K cd1 "number_written" = true) (k1 : PySem.W.keepIn K (.ref f1) = true)
    (a2 : PySem.W.nsIn K mainGlobals "fraction_written" = some (some (.ref f2))) (l2 : K.lookup f2 = some ⟨oc2, od2, .func (PySem.W.fnOf "fraction_written" "fraction_written" (defArgs s_fraction_written) (defBody s_fraction_written) (defScope s_fraction_written) .none kV2 dc2 pm2 an2 cd2 ct2), sl2⟩) (c2 : PySem.W.codeIn K cd2 "fraction_written" = true) (k2 : PySem.W.keepIn K (.ref f2) = true)
    (a3 : PySem.W.nsIn K mainGlobals "is_plain_figures" = some (some (.ref f3))) (l3 : K.lookup f3 = some ⟨oc3, od3, .func (PySem.W.fnOf "is_plain_figures" "is_plain_figures" (defArgs s_is_plain_figures) (defBody s_is_plain_figures) (defScope s_is_plain_figures) .none kV3 dc3 pm3 an3 cd3 ct3), sl3⟩) (c3 : PySem.W.codeIn K cd3 "is_plain_figures" = true) (k3 : PySem.W.keepIn K (.ref f3) = true)
    (a4 : PySem.W.nsIn K mainGlobals "number_read" = some (some (.ref f4))) (l4 : K.lookup f4 = some ⟨oc4, od4, .func (PySem.W.fnOf "number_read" "number_read" (defArgs s_number_read) (defBody s_number_read) (defScope s_number_read) .none kV4 dc4 pm4 an4 cd4 ct4), sl4⟩) (c4 : PySem.W.codeIn K cd4 "number_read" = true) (k4 : PySem.W.keepIn K (.ref f4) = true)
    (a5 : PySem.W.nsIn K mainGlobals "fraction_read" = some (some (.ref f5))) (l5 : K.lookup f5 = some ⟨oc5, od5, .func (PySem.W.fnOf "fraction_read" "fraction_read" (defArgs s_fraction_read) (defBody s_fraction_read) (defScope s_fraction_read) .none kV5 dc5 pm5 an5 cd5 ct5), sl5⟩) (c5 : PySem.W.codeIn K cd5 "fraction_read" = true) (k5 : PySem.W.keepIn K (.ref f5) = true)
    (a6 : PySem.W.nsIn K mainGlobals "_law_stir" = some (some (.ref f6))) (l6 : K.lookup f6 = some ⟨oc6, od6, .func (PySem.W.fnOf "_law_stir" "_law_stir" (defArgs s_law_stir) (defBody s_law_stir) (defScope s_law_stir) .none kV6 dc6 pm6 an6 cd6 ct6), sl6⟩) (c6 : PySem.W.codeIn K cd6 "_law_stir" = true) (k6 : PySem.W.keepIn K (.ref f6) = true)
    (a7 : PySem.W.nsIn K mainGlobals "_law_measure" = some (some (.ref f7))) (l7 : K.lookup f7 = some ⟨oc7, od7, .func (PySem.W.fnOf "_law_measure" "_law_measure" (defArgs s_law_measure) (defBody s_law_measure) (defScope s_law_measure) .none kV7 dc7 pm7 an7 cd7 ct7), sl7⟩) (c7 : PySem.W.codeIn K cd7 "_law_measure" = true) (k7 : PySem.W.keepIn K (.ref f7) = true)
    (a8 : PySem.W.nsIn K mainGlobals "_law_fraction" = some (some (.ref f8))) (l8 : K.lookup f8 = some ⟨oc8, od8, .func (PySem.W.fnOf "_law_fraction" "_law_fraction" (defArgs s_law_fraction) (defBody s_law_fraction) (defScope s_law_fraction) .none kV8 dc8 pm8 an8 cd8 ct8), sl8⟩) (c8 : PySem.W.codeIn K cd8 "_law_fraction" = true) (k8 : PySem.W.keepIn K (.ref f8) = true)
    (a9 : PySem.W.nsIn K mainGlobals "_law_is" = some (some (.ref f9))) (l9 : K.lookup f9 = some ⟨oc9, od9, .func (PySem.W.fnOf "_law_is" "_law_is" (defArgs s_law_is) (defBody s_law_is) (defScope s_law_is) .none kV9 dc9 pm9 an9 cd9 ct9), sl9⟩) (c9 : PySem.W.codeIn K cd9 "_law_is" = true) (k9 : PySem.W.keepIn K (.ref f9) = true)
    (a10 : PySem.W.nsIn K mainGlobals "_law_text" = some (some (.ref f10))) (l10 : K.lookup f10 = some ⟨oc10, od10, .func (PySem.W.fnOf "_law_text" "_law_text" (defArgs s_law_text) (defBody s_law_text) (defScope s_law_text) .none kV10 dc10 pm10 an10 cd10 ct10), sl10⟩) (c10 : PySem.W.codeIn K cd10 "_law_text" = true) (k10 : PySem.W.keepIn K (.ref f10) = true)
    (a11 : PySem.W.nsIn K mainGlobals "law" = some (some (.ref f11))) (l11 : K.lookup f11 = some ⟨oc11, od11, .func (PySem.W.fnOf "law" "law" (defArgs s_law) (defBody s_law) (defScope s_law) .none kV11 dc11 pm11 an11 cd11 ct11), sl11⟩) (c11 : PySem.W.codeIn K cd11 "law" = true) (k11 : PySem.W.keepIn K (.ref f11) = true)
    (z_abs : PySem.W.nsIn K mainGlobals "abs" = some none)
    (z_all : PySem.W.nsIn K mainGlobals "all" = some none)
    (z_bool : PySem.W.nsIn K mainGlobals "bool" = some none)
    (z_int : PySem.W.nsIn K mainGlobals "int" = some none)
    (z_isinstance : PySem.W.nsIn K mainGlobals "isinstance" = some none)
    (z_len : PySem.W.nsIn K mainGlobals "len" = some none)
    (z_str : PySem.W.nsIn K mainGlobals "str" = some none)
    (z_tuple : PySem.W.nsIn K mainGlobals "tuple" = some none)
    {tk_BLOCK_FIGURES : Tok} (y_BLOCK_FIGURES : PySem.W.nsIn K mainGlobals "BLOCK_FIGURES" = some (some (.int 64 tk_BLOCK_FIGURES)))
    {tk_FIGURES : Tok} (y_FIGURES : PySem.W.nsIn K mainGlobals "FIGURES" = some (some (.str "0123456789" tk_FIGURES)))
    {tk_MOST_FIGURES : Tok} (y_MOST_FIGURES : PySem.W.nsIn K mainGlobals "MOST_FIGURES" = some (some (.int 600 tk_MOST_FIGURES)))
    {cNoText : Addr} (aa_NoText : PySem.W.nsIn K mainGlobals "NoText" = some (some (.ref cNoText))) (xx_NoText : PySem.W.excIn K cNoText [.type "ValueError", .type "Exception", .type "BaseException", .type "object"] "ValueError.__new__" = true)
    : ∃ fd : FuncData, (∀ (s : Shared) (v : Value), BindsTo s fd ⟨[v], []⟩ [("script", v)]) ∧ ∀ base : Heap, K.In base → base.Ns mainGlobals mg → FnOk l.prog w K mg base (CXe l.prog w) 4 fa fd ["script"] (sp_law K) := by
  have e := hfa.symm.trans (PySem.W.mg_of X G a11)
  cases e
  have T : Txt K mg cNoText := ⟨PySem.W.mg_none_of X G z_abs, PySem.W.mg_none_of X G z_all, PySem.W.mg_none_of X G z_bool, PySem.W.mg_none_of X G z_int, PySem.W.mg_none_of X G z_isinstance, PySem.W.mg_none_of X G z_len, PySem.W.mg_none_of X G z_str, PySem.W.mg_none_of X G z_tuple, ⟨_, PySem.W.mg_of X G y_BLOCK_FIGURES⟩, ⟨_, PySem.W.mg_of X G y_FIGURES⟩, ⟨_, PySem.W.mg_of X G y_MOST_FIGURES⟩, ⟨PySem.W.mg_of X G aa_NoText, _, _, _, PySem.F.excBase_ValueError, xx_NoText⟩⟩
  refine ⟨PySem.W.fnOf "law" "law" (defArgs s_law) (defBody s_law) (defScope s_law) .none kV11 dc11 pm11 an11 cd11 ct11, fun s v => .of_eq rfl, fun base kb nb => ?_⟩
  have F0 := fun_mk (st := s_common_divisor) l0 c0 k0
  have b0 := F0.binds (ps := ["one", "other"]) fun _ _ _ _ _ _ us hl => match us, hl with | [_, _], _ => rfl
  have C_common_divisor : Cal l.prog w K mg base (CXe l.prog w) 1 "common_divisor" ["one", "other"] sp_common_divisor := ⟨_, _, ok_common_divisor T F0 , PySem.W.mg_of X G a0, k0, b0⟩
  have F1 := fun_mk (st := s_number_written) l1 c1 k1
  have b1 := F1.binds (ps := ["number"]) fun _ _ _ _ _ _ us hl => match us, hl with | [_], _ => rfl
  have C_number_written : Cal l.prog w K mg base (CXe l.prog w) 1 "number_written" ["number"] sp_number_written := ⟨_, _, ok_number_written T F1 , PySem.W.mg_of X G a1, k1, b1⟩
  have F2 := fun_mk (st := s_fraction_written) l2 c2 k2
  have b2 := F2.binds (ps := ["fraction"]) fun _ _ _ _ _ _ us hl => match us, hl with | [_], _ => rfl
  have C_fraction_written : Cal l.prog w K mg base (CXe l.prog w) 2 "fraction_written" ["fraction"] sp_fraction_written := ⟨_, _, ok_fraction_written T F2 C_number_written, PySem.W.mg_of X G a2, k2, b2⟩
  have F3 := fun_mk (st := s_is_plain_figures) l3 c3 k3
  have b3 := F3.binds (ps := ["text"]) fun _ _ _ _ _ _ us hl => match us, hl with | [_], _ => rfl
  have C_is_plain_figures : Cal l.prog w K mg base (CXe l.prog w) 1 "is_plain_figures" ["text"] sp_is_plain_figures := ⟨_, _, ok_is_plain_figures T F3 , PySem.W.mg_of X G a3, k3, b3⟩
  have F4 := fun_mk (st := s_number_read) l4 c4 k4
  have b4 := F4.binds (ps := ["text"]) fun _ _ _ _ _ _ us hl => match us, hl with | [_], _ => rfl
  have C_number_read : Cal l.prog w K mg base (CXe l.prog w) 2 "number_read" ["text"] (sp_number_read cNoText) := ⟨_, _, ok_number_read T F4 C_is_plain_figures, PySem.W.mg_of X G a4, k4, b4⟩
  have F5 := fun_mk (st := s_fraction_read) l5 c5 k5
  have b5 := F5.binds (ps := ["text"]) fun _ _ _ _ _ _ us hl => match us, hl with | [_], _ => rfl
  have C_fraction_read : Cal l.prog w K mg base (CXe l.prog w) 3 "fraction_read" ["text"] (sp_fraction_read cNoText) := ⟨_, _, ok_fraction_read T F5 C_common_divisor C_number_read, PySem.W.mg_of X G a5, k5, b5⟩
  have F6 := fun_mk (st := s_law_stir) l6 c6 k6
  have b6 := F6.binds (ps := ["cell", "k"]) fun _ _ _ _ _ _ us hl => match us, hl with | [_, _], _ => rfl
  have C_law_stir : Cal l.prog w K mg base (CXe l.prog w) 1 "_law_stir" ["cell", "k"] sp_law_stir := ⟨_, _, ok_law_stir T F6 , PySem.W.mg_of X G a6, k6, b6⟩
  have F7 := fun_mk (st := s_law_measure) l7 c7 k7
  have b7 := F7.binds (ps := ["one", "other"]) fun _ _ _ _ _ _ us hl => match us, hl with | [_, _], _ => rfl
  have C_law_measure : Cal l.prog w K mg base (CXe l.prog w) 1 "_law_measure" ["one", "other"] sp_law_measure := ⟨_, _, ok_law_measure T F7 , PySem.W.mg_of X G a7, k7, b7⟩
  have F8 := fun_mk (st := s_law_fraction) l8 c8 k8
  have b8 := F8.binds (ps := ["cell", "k"]) fun _ _ _ _ _ _ us hl => match us, hl with | [_, _], _ => rfl
  have C_law_fraction : Cal l.prog w K mg base (CXe l.prog w) 2 "_law_fraction" ["cell", "k"] sp_law_fraction := ⟨_, _, ok_law_fraction T F8 C_law_stir C_law_measure, PySem.W.mg_of X G a8, k8, b8⟩
  have F9 := fun_mk (st := s_law_is) l9 c9 k9
  have b9 := F9.binds (ps := ["found", "top", "bottom"]) fun _ _ _ _ _ _ us hl => match us, hl with | [_, _, _], _ => rfl
  have C_law_is : Cal l.prog w K mg base (CXe l.prog w) 2 "_law_is" ["found", "top", "bottom"] sp_law_is := ⟨_, _, ok_law_is T F9 C_law_measure, PySem.W.mg_of X G a9, k9, b9⟩
  have F10 := fun_mk (st := s_law_text) l10 c10 k10
  have b10 := F10.binds (ps := ["made"]) fun _ _ _ _ _ _ us hl => match us, hl with | [_], _ => rfl
  have C_law_text : Cal l.prog w K mg base (CXe l.prog w) 1 "_law_text" ["made"] sp_law_text := ⟨_, _, ok_law_text T F10 , PySem.W.mg_of X G a10, k10, b10⟩
  have F11 := fun_mk (st := s_law) l11 c11 k11
  exact ok_law T F11 C_fraction_written C_fraction_read C_law_stir C_law_fraction C_law_is C_law_text
theorem walk {l : PySem.W.OpenLaw} {q : Program} {loose : List Str} {XP : (Str → Option Value) → Heap → Prop} {YP : World → Heap → Prop} {d : DefRec} {K : Params → PySem.W.Frag} (hn : l.most = some 63) (hdf : d.params.defaults = [])
    (hY : ∀ (w : World) (h : Heap), YP w h → (K w.params).In h)
    (F : ∀ (w : World) (mg : Str → Option Value) (fa : Addr) (h : Heap), (K w.params).In h → h.Ns mainGlobals mg → mg d.name = some (.ref fa) →
      ∃ fd : FuncData, (∀ (s : Shared) (u : Value), BindsTo s fd ⟨[u], []⟩ [("script", u)]) ∧ ∀ base : Heap, (K w.params).In base → base.Ns mainGlobals mg → FnOk l.prog w (K w.params) mg base (CXe l.prog w) 4 fa fd ["script"] (sp_law (K w.params))) :
    PySem.W.WalkO q loose XP YP l.row.toRowW d [] (fun f vs => PySem.call f vs) :=
  L2.walk_of (n := 63) (k := 4) (x := "script") (CX := fun w => (CXe l.prog w)) (sp := fun w => sp_law (K w.params)) hn (by decide) hdf ⟨rfl, by decide, by decide⟩ hY F (fun _ _ a ns hl _ hS => ⟨a, ns, rfl, hS, hl, fun _ => rfl⟩) fun _ _ _ _ _ ⟨_, _, _, _, _, _, _, _, _, z⟩ => z
end My
open PySem PySem.W PyProof.Rows
set_option maxRecDepth 100000 in
set_option maxHeartbeats 0 in
theorem PySem.Challenge.cw_closehaul_k04_fractions_written_and_read_holds : PySem.Challenge.rw_closehaul_k04_fractions_written_and_read.Holds := by
  w_on; o_law; k_head; (case hw => w_witness2)
  k_fill
  refine My.walk (l := PySem.Challenge.rw_closehaul_k04_fractions_written_and_read) rfl rfl (fun w h Y => PySem.W.kIn_of Y) ?F
  case F =>
    intro w mg fa h KX G hmg
    refine' My.all_mk KX G hmg ?a0 ?l0 ?c0 ?k0 ?a1 ?l1 ?c1 ?k1 ?a2 ?l2 ?c2 ?k2 ?a3 ?l3 ?c3 ?k3 ?a4 ?l4 ?c4 ?k4 ?a5 ?l5 ?c5 ?k5 ?a6 ?l6 ?c6 ?k6 ?a7 ?l7 ?c7 ?k7 ?a8 ?l8 ?c8 ?k8 ?a9 ?l9 ?c9 ?k9 ?a10 ?l10 ?c10 ?k10 ?a11 ?l11 ?c11 ?k11 ?z_abs ?z_all ?z_bool ?z_int ?z_isinstance ?z_len ?z_str ?z_tuple ?y_BLOCK_FIGURES ?y_FIGURES ?y_MOST_FIGURES ?aa_NoText ?xx_NoText
    (case a0 => k_is)
    (case l0 => k_is)
    (case c0 => k_is)
    (case k0 => k_is)
    (case a1 => k_is)
    (case l1 => k_is)
    (case c1 => k_is)
    (case k1 => k_is)
    (case a2 => k_is)
    (case l2 => k_is)
    (case c2 => k_is)
    (case k2 => k_is)
    (case a3 => k_is)
    (case l3 => k_is)
    (case c3 => k_is)
    (case k3 => k_is)
    (case a4 => k_is)
    (case l4 => k_is)
    (case c4 => k_is)
    (case k4 => k_is)
    (case a5 => k_is)
    (case l5 => k_is)
    (case c5 => k_is)
    (case k5 => k_is)
    (case a6 => k_is)
    (case l6 => k_is)
    (case c6 => k_is)
    (case k6 => k_is)
    (case a7 => k_is)
    (case l7 => k_is)
    (case c7 => k_is)
    (case k7 => k_is)
    (case a8 => k_is)
    (case l8 => k_is)
    (case c8 => k_is)
    (case k8 => k_is)
    (case a9 => k_is)
    (case l9 => k_is)
    (case c9 => k_is)
    (case k9 => k_is)
    (case a10 => k_is)
    (case l10 => k_is)
    (case c10 => k_is)
    (case k10 => k_is)
    (case a11 => k_is)
    (case l11 => k_is)
    (case c11 => k_is)
    (case k11 => k_is)
    (case z_abs => k_is)
    (case z_all => k_is)
    (case z_bool => k_is)
    (case z_int => k_is)
    (case z_isinstance => k_is)
    (case z_len => k_is)
    (case z_str => k_is)
    (case z_tuple => k_is)
    (case y_BLOCK_FIGURES => k_is)
    (case y_FIGURES => k_is)
    (case y_MOST_FIGURES => k_is)
    (case aa_NoText => k_is)
    (case xx_NoText => k_exc)

