import PyProof.Rows.All
import Wide.All
import OpenK.AllK
import Wide.FinOn
import Lean
import PyProof.EqAt
import PyProof.EqKinds
import PyProof.TupleCall
import PyProof.Rows.SortRuns
import KE.KRevIter
import PyProof.SetRoads
import PyProof.ListNew
import PyProof.Rows.ListMulPlace
import PySem.Challenge.RW_closehaul_k17_where_shares_lead
set_option Elab.async false
set_option linter.all false
set_option maxRecDepth 100000
namespace L2
open PySem PySem.Spec PyProof.Rows
abbrev Key := Sum Int Str
def keyIs : Key -> Value -> Bool
 | .inl k, v => Value.isInt k v
 | .inr x, v => Value.isStrOf x v
def keyH (w : World) : Key -> Int
 | .inl k => hashInt k
 | .inr x => hashStr w x
theorem keyIs_shape : ∀ {k : Key} {v : Value}, keyIs k v = true -> (∃ i t, k = Sum.inl i /\ v = Value.int i t) \/ (∃ x t, k = Sum.inr x /\ v = Value.str x t)
 | .inl i, v, h => by
  obtain ⟨t, e⟩ := Value.isInt_shape (k := i) (v := v) h
  exact .inl ⟨i, t, rfl, e⟩
 | .inr x, v, h => by
  obtain ⟨t, e⟩ := Value.isStrOf_shape (x := x) (v := v) h
  exact .inr ⟨x, t, rfl, e⟩
theorem key_ll (a b : Int) : decide ((Sum.inl a : Key) = Sum.inl b) = (a == b) := by
 by_cases e : a = b
 ·subst e; simp
 ·have h : ¬ (Sum.inl a : Key) = Sum.inl b := fun q => e (Sum.inl.inj q)
  rw [decide_eq_false h]
  exact (beq_eq_false_iff_ne.mpr e).symm
theorem key_rr (a b : Str) : decide ((Sum.inr a : Key) = Sum.inr b) = decide (a = b) := by
 by_cases e : a = b
 ·subst e; simp
 ·have h : ¬ (Sum.inr a : Key) = Sum.inr b := fun q => e (Sum.inr.inj q)
  rw [decide_eq_false h, decide_eq_false e]
theorem key_lr (a : Int) (b : Str) : decide ((Sum.inl a : Key) = Sum.inr b) = false := decide_eq_false (fun q => nomatch q)
theorem key_rl (a : Str) (b : Int) : decide ((Sum.inr a : Key) = Sum.inl b) = false := decide_eq_false (fun q => nomatch q)
def mixKind (prog : Program) (w : World) : PySem.KeyKind prog w Key where
 is := keyIs
 hash := keyH w
 inj := fun v a b ha hb => by
  rcases keyIs_shape ha with ⟨i, t, rfl, rfl⟩ | ⟨x, t, rfl, rfl⟩
  ·rcases keyIs_shape hb with ⟨j, u, rfl, e⟩ | ⟨y, u, rfl, e⟩
   ·injection e with e1 _; rw [e1]
   ·exact nomatch e
  ·rcases keyIs_shape hb with ⟨j, u, rfl, e⟩ | ⟨y, u, rfl, e⟩
   ·exact nomatch e
   ·injection e with e1 _; rw [e1]
 byValue := fun k v h => by
  rcases keyIs_shape h with ⟨i, t, rfl, rfl⟩ | ⟨x, t, rfl, rfl⟩ <;> rfl
 pyHash := fun hv h => by
  rcases keyIs_shape hv with ⟨i, t, rfl, rfl⟩ | ⟨x, t, rfl, rfl⟩
  ·exact wpAny_pyHash_int h
  ·exact wpAny_pyHash_str h
 eqBool := fun hu hv h => by
  rcases keyIs_shape hu with ⟨i, t, rfl, rfl⟩ | ⟨x, t, rfl, rfl⟩
  ·rcases keyIs_shape hv with ⟨j, u, rfl, rfl⟩ | ⟨y, u, rfl, rfl⟩
   ·rw [key_ll] at h; exact wpAny_eqBool_int h
   ·rw [key_lr] at h; exact SeqAt.EqAt.int_str i t y u _ _ _ _ h
  ·rcases keyIs_shape hv with ⟨j, u, rfl, rfl⟩ | ⟨y, u, rfl, rfl⟩
   ·rw [key_rl] at h; exact SeqAt.EqAt.str_int x t j u _ _ _ _ h
   ·rw [key_rr] at h; exact wpAny_eqBool_str h
 «strs» := fun k x t v h => by
  rcases keyIs_shape h with ⟨i, u, rfl, e⟩ | ⟨y, u, rfl, e⟩
  ·exact nomatch e
  ·injection e with e1 _
   subst e1
   cases v <;> rfl
end L2
namespace L2
open PySem PySem.Spec PyProof.Rows
inductive V where
 | non | bl (b : Bool) | int (i : Int) | str (x : Str) | byt (b : Array UInt8) | flt (b : UInt64) | ref (a : Addr) | ty (n : String)
 deriving DecidableEq
def RelV : V -> Value -> Prop
 | .non, u => u = Value.none
 | .bl b, u => u = Value.bool b
 | .int i, u => ∃ t, u = Value.int i t
 | .str x, u => ∃ t, u = Value.str x t
 | .byt b, u => ∃ t, u = Value.bytes b t
 | .flt b, u => ∃ t, u = Value.float b t
 | .ref a, u => u = Value.ref a
 | .ty n, u => u = Value.type n
abbrev Vals : List V -> List Value -> Prop := Paired RelV
theorem Vals.length {xs : List V} {us : List Value} (r : Vals xs us) : xs.length = us.length := Paired.length r
theorem Vals.get : ∀ {xs : List V} {us : List Value} {i : Nat} {x : V}, Vals xs us -> xs[i]? = some x -> ∃ u, us[i]? = some u /\ RelV x u
 | _, _, _, _, .nil, e => by simp at e
 | _, _, 0, _, .cons r _, e => by simp at e; subst e; exact ⟨_, rfl, r⟩
 | _, _, i + 1, x, .cons _ t, e => by
  obtain ⟨u, h1, h2⟩ := Vals.get (i := i) (x := x) t (by simpa using e)
  exact ⟨u, by simpa using h1, h2⟩
theorem Vals.append : ∀ {xs ys : List V} {us ws : List Value}, Vals xs us -> Vals ys ws -> Vals (xs ++ ys) (us ++ ws)
 | _, _, _, _, .nil, s => s
 | _, _, _, _, .cons r t, s => .cons r (Vals.append t s)
theorem Vals.take : ∀ {xs : List V} {us : List Value} (n : Nat), Vals xs us -> Vals (xs.take n) (us.take n)
 | _, _, 0, _ => .nil
 | _, _, _ + 1, .nil => .nil
 | _, _, n + 1, .cons r t => .cons r (Vals.take n t)
theorem Vals.drop : ∀ {xs : List V} {us : List Value} (n : Nat), Vals xs us -> Vals (xs.drop n) (us.drop n)
 | _, _, 0, r => r
 | _, _, _ + 1, .nil => .nil
 | _, _, n + 1, .cons _ t => Vals.drop n t
def RelO : Option V -> Option Value -> Prop
 | some v, some u => RelV v u
 | none, none => True
 | _, _ => False
def KV {κ : Type} : List (κ × V) -> List (κ × Value) -> Prop := Paired fun (p : κ × V) (q : κ × Value) => p.1 = q.1 /\ RelV p.2 q.2
def kV : Key -> V
 | .inl i => .int i
 | .inr x => .str x
inductive HO where
 | lst (xs : List V)
 | tup (xs : List V)
 | dK (kvs : List (Key × V)) | dT (kvs : List (List Key × V))
 | set (S : Int -> Bool) (n : Nat)
 | ins (C dx : Addr) (fs : List (Str × V))
 | own (x : Addr)
 | xd (fs : List (Str × V))
 | met (f x : Addr)
 | rng (lo hi : Int)
 | frz (o : Obj) (u : HO)
 | tbl (ps : Array Value)
 | ext (φ : Heap -> Prop)
abbrev Hp := Addr -> Option HO
def upd (H : Hp) (a : Addr) (o : HO) : Hp := fun b => if b = a then some o else H b
theorem upd_same {H : Hp} {a : Addr} {o : HO} : upd H a o a = some o := by unfold upd; rw [if_pos rfl]
theorem upd_ne {H : Hp} {a b : Addr} {o : HO} (h : b ≠ a) : upd H a o b = H b := by unfold upd; rw [if_neg h]
theorem ne_of_none {H : Hp} {a b : Addr} {o : HO} (h : H a = some o) (h' : H b = none) : a ≠ b := by
 intro e; subst e; rw [h] at h'; cases h'
section
variable (P : Program) (w : World)
def ObjOk (H : Hp) (h : Heap) (a : Addr) : HO -> Prop
 | .lst xs => xs.length <= sizeLine /\ ∃ (its : List Value) (n : Nat), Vals xs its /\ h.get? a = some { cls := .type "list", data := .seq its.toArray n }
 | .tup xs => xs.length <= sizeLine /\ ∃ its : List Value, Vals xs its /\ IsTup h a its.toArray
 | .dK kvs => kvs.length <= sizeLine /\ (a == sysModules) = false /\ ∃ vs, KV kvs vs /\ h.DictOf (mixKind P w) a vs
 | .dT kvs => kvs.length <= sizeLine /\ (a == sysModules) = false /\ ∃ xs : List (List Key × Addr × Value),
   Paired (fun (p : List Key × V) (q : List Key × Addr × Value) => p.1 = q.1 /\ H q.2.1 = some (.tup (p.1.map kV)) /\ RelV p.2 q.2.2) kvs xs /\
   ∃ o es ep, h.get? a = some o /\ o.ExactDict /\ o.data = .dict es ep /\ es.toList = xs.map (entryOfKey (tupleKind (mixKind P w))) /\ (xs.map (·.1)).Nodup
 | .set S n => h.SetOf (intKind P w) a S n
 | .ins C dx fs => H dx = some (.own a) /\ fs.length <= 1000 /\ dx ≠ a /\ h.get? a = some (PySem.W.instObj C dx) /\
   ∃ mA, h.Ns1 dx mA /\ (∀ f, RelO (fs.lookup f) (mA f)) /\ PySem.Within mA (fs.map (·.1))
 | .own _ => ∃ o, h.get? a = some o
 | .xd fs => ∃ mA, h.Ns1 a mA /\ ∀ f, RelO (fs.lookup f) (mA f)
 | .rng lo hi => ∃ t u v, h.get? a = some { cls := .type "range", data := .fields #[.int lo t, .int hi u, .int 1 v] }
 | .frz o u => h.get? a = some o /\ ObjOk H h a u
 | .tbl ps => h.get? a = some { cls := .none, data := .fields ps }
 | .met f x => h.get? a = some (PySem.W.methodObj (.ref f) (.ref x))
 | .ext φ => φ h /\ (∃ o, h.get? a = some o) /\ ∀ h1 h2 : Heap, φ h1 -> (∀ o, h1.get? a = some o -> h2.get? a = some o) -> φ h2
def HOk (H : Hp) (h : Heap) : Prop := ∀ a o, H a = some o -> ObjOk P w H h a o
end
section
variable {P : Program} {w : World} {H H' : Hp} {h h' : Heap} {a : Addr} {o : HO}
theorem ObjOk.lt (x : ObjOk P w H h a o) : a < h.objs.size := by
 cases o with
 | lst xs => obtain ⟨_, _, _, _, e⟩ := x; exact Heap.lt_size e
 | tup xs => obtain ⟨_, _, _, p⟩ := x; exact p.lt
 | dK kvs => obtain ⟨_, _, _, _, o, _, _, e, _⟩ := x; exact Heap.lt_size e
 | dT kvs => obtain ⟨_, _, _, _, o, _, _, e, _⟩ := x; exact Heap.lt_size e
 | set S n => obtain ⟨o, _, _, _, e, _⟩ := x; exact Heap.lt_size e
 | ins C dx fs => obtain ⟨_, _, _, e, _⟩ := x; exact Heap.lt_size e
 | own y => obtain ⟨_, e⟩ := x; exact Heap.lt_size e
 | xd fs => obtain ⟨_, ⟨_, _, _, e, _⟩, _⟩ := x; exact Heap.lt_size e
 | rng lo hi => obtain ⟨_, _, _, e⟩ := x; exact Heap.lt_size e
 | frz ob u => obtain ⟨e, _⟩ := x; exact Heap.lt_size e
 | tbl ps => exact Heap.lt_size (show h.get? a = some _ from x)
 | met f y => exact Heap.lt_size (show h.get? a = some _ from x)
 | ext φ => obtain ⟨_, ⟨_, e⟩, _⟩ := x; exact Heap.lt_size e
theorem Paired.mapP {α β : Type} {F G : α -> β -> Prop} : ∀ {l₁ : List α} {l₂ : List β}, Paired F l₁ l₂ -> (∀ a b, F a b -> G a b) -> Paired G l₁ l₂
 | _, _, .nil, _ => .nil
 | _, _, .cons r t, f => .cons (f _ _ r) (Paired.mapP t f)
theorem ObjOk.stay (x : ObjOk P w H h a o) (k : ∀ b u, (b = a \/ H b = some (.own a)) -> h.get? b = some u -> h'.get? b = some u)
  (ho : ∀ b, H b = some (.own a) -> H' b = some (.own a)) (ht : ∀ b xs, H b = some (.tup xs) -> H' b = some (.tup xs)) : ObjOk P w H' h' a o := by
 induction o with
 | lst xs => obtain ⟨z, its, n, r, e⟩ := x; exact ⟨z, its, n, r, k _ _ (.inl rfl) e⟩
 | tup xs => obtain ⟨z, its, r, ob, e, c⟩ := x; exact ⟨z, its, r, ob, k _ _ (.inl rfl) e, c⟩
 | dK kvs => obtain ⟨z, y, vs, r, ob, es, ep, e, c⟩ := x; exact ⟨z, y, vs, r, ob, es, ep, k _ _ (.inl rfl) e, c⟩
 | dT kvs =>
  obtain ⟨z, y, xs, r, ob, es, ep, e, c⟩ := x
  exact ⟨z, y, xs, Paired.mapP r fun p q z => ⟨z.1, ht _ _ z.2.1, z.2.2⟩, ob, es, ep, k _ _ (.inl rfl) e, c⟩
 | set S n => obtain ⟨ob, es, ep, t, e, c⟩ := x; exact ⟨ob, es, ep, t, k _ _ (.inl rfl) e, c⟩
 | ins C dx fs =>
  obtain ⟨d, z, ne, e, mA, ⟨od, es, ep, e2, c⟩, r⟩ := x
  exact ⟨ho _ d, z, ne, k _ _ (.inl rfl) e, mA, ⟨od, es, ep, k _ _ (.inr d) e2, c⟩, r⟩
 | own y => obtain ⟨ob, e⟩ := x; exact ⟨ob, k _ _ (.inl rfl) e⟩
 | xd fs => obtain ⟨mA, ⟨od, es, ep, e, c⟩, r⟩ := x; exact ⟨mA, ⟨od, es, ep, k _ _ (.inl rfl) e, c⟩, r⟩
 | rng lo hi => obtain ⟨t, u, v, e⟩ := x; exact ⟨t, u, v, k _ _ (.inl rfl) e⟩
 | frz ob u ih => obtain ⟨e, q⟩ := x; exact ⟨k _ _ (.inl rfl) e, ih q⟩
 | tbl ps =>
  have e : h.get? a = some { cls := .none, data := .fields ps } := x
  show h'.get? a = some { cls := .none, data := .fields ps }
  exact k a _ (.inl rfl) e
 | met f y =>
  have e : h.get? a = some (PySem.W.methodObj (.ref f) (.ref y)) := x
  show h'.get? a = some (PySem.W.methodObj (.ref f) (.ref y))
  exact k a _ (.inl rfl) e
 | ext φ => obtain ⟨p, ⟨o, e⟩, st⟩ := x; exact ⟨st _ _ p fun o q => k _ _ (.inl rfl) q, ⟨o, k _ _ (.inl rfl) e⟩, st⟩
theorem HOk.lt (x : HOk P w H h) (e : H a = some o) : a < h.objs.size := (x a o e).lt
theorem HOk.fresh (x : HOk P w H h) (e : h.objs.size <= a) : H a = none := by
 cases q : H a with
 | none => rfl
 | some u => exact absurd (Nat.lt_of_lt_of_le (x.lt q) e) (Nat.lt_irrefl _)
theorem HOk.kept (x : HOk P w H h) (k : ∀ b u, h.get? b = some u -> h'.get? b = some u) : HOk P w H h' := fun a o e =>
 (x a o e).stay (fun b u _ q => k b u q) (fun _ q => q) fun _ _ q => q
theorem HOk.laid (x : HOk P w H h) (k : ∀ b u, h.get? b = some u -> h'.get? b = some u) (hp : h.objs.size <= a) (new : ObjOk P w (upd H a o) h' a o) : HOk P w (upd H a o) h' := fun b u e => by
 have hn := x.fresh hp
 by_cases hb : b = a
 ·subst hb; rw [upd_same] at e; cases e; exact new
 ·rw [upd_ne hb] at e
  exact (x b u e).stay (fun c v _ q => k c v q) (fun c q => by rw [upd_ne (ne_of_none q hn)]; exact q) fun c xs q => by rw [upd_ne (ne_of_none q hn)]; exact q
end
def Rd (H : Hp) (a : Addr) (u : HO) : Prop := H a = some u \/ ∃ o, H a = some (.frz o u)
theorem Rd.ok {P : Program} {w : World} {H : Hp} {h : Heap} {a : Addr} {u : HO} (r : Rd H a u) (x : HOk P w H h) : ObjOk P w H h a u := by
 rcases r with r | ⟨o, r⟩
 ·exact x a u r
 ·obtain ⟨_, q⟩ := x a _ r
  exact q
def Mut : Option HO -> Prop
 | some (.lst _) => True
 | some (.dK _) => True
 | some (.dT _) => True
 | some (.set _ _) => True
 | some (.ins _ _ _) => True
 | some (.ext _) => True
 | _ => False
section
variable {P : Program} {w : World} {H : Hp} {h h' : Heap} {x e : Addr} {o' : HO}
theorem HOk.write (ok : HOk P w H h) (mu : Mut (H x)) (he : e = x \/ H e = some (.own x)) (k : ∀ b u, b ≠ e -> h.get? b = some u -> h'.get? b = some u) (heo : ∃ u, h'.get? e = some u)
  (new : ObjOk P w (upd H x o') h' x o') : HOk P w (upd H x o') h' := fun b u q => by
 have nown : ∀ c y, H c = some (.own y) -> c ≠ x := fun c y r z => by subst z; rw [r] at mu; exact mu
 have ntup : ∀ c xs, H c = some (.tup xs) -> c ≠ x := fun c xs r z => by subst z; rw [r] at mu; exact mu
 by_cases hb : b = x
 ·subst hb; rw [upd_same] at q; cases q; exact new
 ·rw [upd_ne hb] at q
  by_cases hbe : b = e
  ·have q' : H b = some (.own x) := by
    rcases he with z | z
    ·exact absurd (hbe.trans z) hb
    ·rw [hbe]; exact z
   rw [q] at q'; cases q'
   obtain ⟨v, hv⟩ := heo
   exact ⟨v, by rw [hbe]; exact hv⟩
  ·refine (ok b u q).stay (fun c v hc r => k c v ?_ r) (fun c r => by rw [upd_ne (nown c b r)]; exact r) fun c xs r => by rw [upd_ne (ntup c xs r)]; exact r
   rcases hc with rfl | hc
   ·exact hbe
   ·rintro rfl
    rcases he with z | z
    ·exact nown c b hc z
    ·rw [hc] at z; cases z; exact hb rfl
end
structure Un (fs ex : List Addr) (H H' : Hp) (h h' : Heap) : Prop where
 keep : ∀ b o, h.get? b = some o -> H b = none -> b ∉ fs -> b ∉ ex -> h'.get? b = some o
 slot : ∀ b o, h.get? b = some o -> H b = none -> b ∈ fs -> b ∉ ex -> ∃ sl, h'.get? b = some { o with slots := sl }
 free : ∀ b o, h.get? b = some o -> H b = none -> b ∉ ex -> H' b = none
 there : ∀ b o, h.get? b = some o -> b ∉ ex -> ∃ o', h'.get? b = some o'
 tups : ∀ b xs, H b = some (.tup xs) -> H' b = some (.tup xs)
 frzs : ∀ b o u, H b = some (.frz o u) -> H' b = some (.frz o u)
 tbls : ∀ b ps, H b = some (.tbl ps) -> ∃ more, H' b = some (.tbl (ps ++ more))
section
variable {fs fs' ex ex' : List Addr} {H H1 H2 : Hp} {h h1 h2 h' : Heap} {a x e : Addr} {o : HO}
theorem Un.any (u : Un fs ex H H1 h h1) {b : Addr} {ob : Obj} (q : h.get? b = some ob) (n : H b = none) (hx : b ∉ ex) : ∃ sl, h1.get? b = some { ob with slots := sl } := by
 by_cases hb : b ∈ fs
 ·exact u.slot b ob q n hb hx
 ·exact ⟨ob.slots, u.keep b ob q n hb hx⟩
theorem Un.kept (k : ∀ b u, h.get? b = some u -> h'.get? b = some u) : Un fs ex H H h h' :=
 ⟨fun b ob q _ _ _ => k b ob q, fun b ob q _ _ _ => ⟨ob.slots, k b ob q⟩, fun _ _ _ n _ => n, fun b ob q _ => ⟨ob, k b ob q⟩, fun _ _ q => q, fun _ _ _ q => q, fun _ ps q => ⟨#[], by rw [q]; simp⟩⟩
theorem Un.refl : Un fs ex H H h h := Un.kept fun _ _ q => q
theorem Un.laid (k : ∀ b u, h.get? b = some u -> h'.get? b = some u) (hp : h.objs.size <= a) (hn : H a = none) : Un fs ex H (upd H a o) h h' where
 keep := fun b u q _ _ _ => k b u q
 slot := fun b u q _ _ _ => ⟨u.slots, k b u q⟩
 free := fun b u q n _ => by rw [upd_ne (Nat.ne_of_lt (Nat.lt_of_lt_of_le (Heap.lt_size q) hp))]; exact n
 there := fun b u q _ => ⟨u, k b u q⟩
 tups := fun b xs q => by rw [upd_ne (ne_of_none q hn)]; exact q
 frzs := fun b u xs q => by rw [upd_ne (ne_of_none q hn)]; exact q
 tbls := fun b ps q => ⟨#[], by rw [upd_ne (ne_of_none q hn), q]; simp⟩
theorem Un.write (mu : Mut (H x)) (he : e = x \/ H e = some (.own x)) (k : ∀ b u, b ≠ e -> h.get? b = some u -> h'.get? b = some u) (heo : ∃ u, h'.get? e = some u) : Un fs ex H (upd H x o) h h' := by
 have hx : ∀ b, H b = none -> b ≠ x := fun b n z => by subst z; rw [n] at mu; exact mu
 have hb : ∀ b, H b = none -> b ≠ e := fun b n z => by
  subst z
  rcases he with r | r
  ·exact hx b n r
  ·rw [n] at r; cases r
 have hm : ∀ b u, H b = some u -> ¬ Mut (some u) -> b ≠ x := fun b u q nm z => by subst z; rw [q] at mu; exact nm mu
 refine ⟨fun b u q n _ _ => k b u (hb b n) q, fun b u q n _ _ => ⟨u.slots, k b u (hb b n) q⟩, fun b u q n _ => by rw [upd_ne (hx b n)]; exact n, fun b u q _ => ?_,
  fun b xs q => by rw [upd_ne (hm b _ q fun z => z)]; exact q, fun b u xs q => by rw [upd_ne (hm b _ q fun z => z)]; exact q, fun b ps q => ⟨#[], by rw [upd_ne (hm b _ q fun z => z), q]; simp⟩⟩
 by_cases hbe : b = e
 ·subst hbe; exact heo
 ·exact ⟨u, k b u hbe q⟩
end
def trk (h : Heap) (H : Hp) : List Addr := (List.range h.objs.size).filter fun a => (H a).isSome
def hidT (h : Heap) (H : Hp) : Heap := PySem.W.hideAll h (trk h H)
theorem hidT_size (h : Heap) (H : Hp) : (hidT h H).objs.size = h.objs.size := PySem.W.hideAll_size _ _
theorem hidT_get {h : Heap} {H : Hp} {b : Addr} {o : Obj} (e : h.get? b = some o) (n : H b = none) : (hidT h H).get? b = some o :=
 PySem.W.hideAll_get _ e fun hm => by
  have q : (H b).isSome = true := (List.mem_filter.mp hm).2
  rw [n] at q; simp at q
theorem of_hidT {h : Heap} {H : Hp} {b : Addr} {o : Obj} (e : (hidT h H).get? b = some o) : h.get? b = some o /\ H b = none := by
 have e' : h.get? b = some o := PySem.W.of_hideAll (trk h H) e
 refine ⟨e', ?_⟩
 cases q : H b with
 | none => rfl
 | some x =>
  have hm : b ∈ trk h H := List.mem_filter.mpr ⟨List.mem_range.mpr (Heap.lt_size e'), by simp [q]⟩
  have z : (hidT h H).get? b = none := PySem.W.hideAll_none (trk h H) hm
  rw [z] at e; cases e
def allNews (g h : Heap) (L : Addr) : List (Addr × Obj) := (List.range h.objs.size).filterMap fun a => if a = L \/ (g.get? a).isSome = true then none else (h.get? a).map fun o => (a, o)
def rest (g h : Heap) (L d : Addr) : List (Addr × Obj) := (allNews g h L).filter fun p => decide (p.1 ≠ d)
end L2
namespace L2
open PySem PySem.Spec PyProof.Rows
structure Mod (K : PySem.W.Frag) (mg : Str -> Option Value) (base : Heap) : Prop where
 kin : K.In base
 glob : base.Ns mainGlobals mg
 blt : ∃ mb, base.Ns builtinsNs mb /\ ∀ x : Str, x ≠ "__name__" -> mb x = bootBuiltins x
 nolimit : base.NoLimit
structure Cx where
 prog : Program
 w : World
 K : PySem.W.Frag
 mg : Str -> Option Value
 base : Heap
 A : Around
 N : List Str
 s₀ : Shared
 H₀ : Hp
 env : Env
 outer : List Env
 stack : List Env
 ex : List Addr
 fn : Str -> Bool
 calm : Bool
 pn : List (Addr × Obj)
 xe : Value -> Shared -> Prop
def frs (l : List Env) : List Addr := l.filterMap (·.frame)
abbrev Cx.fs (X : Cx) : List Addr := frs X.outer
def Vis (sc : Scope) (x : Str) : Prop := sc.names.lookup x = some .local \/ sc.names.lookup x = some .cell \/ sc.names.lookup x = some .free
def Loc (sc : Scope) (x : Str) : Prop := sc.names.lookup x = some .local \/ sc.names.lookup x = some .cell
def Look (env : Env) (h : Heap) (m : Str -> Option Value) (x : Str) (u : Value) : Prop :=
 (env.kindOf x = some .local /\ m x = some u) \/ ((env.kindOf x = some .cell \/ env.kindOf x = some .free) /\ ∃ c, env.cells.lookup x = some c /\ h.IsCell c (some u))
structure Cx.Ok (X : Cx) : Prop where
 mod : Mod X.K X.mg X.base
 kind : X.env.scope.kind = .function
 glob : X.env.globals = mainGlobals
 blt : X.env.builtins = builtinsNs
 above : X.s₀.heap.objs.size <= X.env.locals
 inj : ∀ x y c, X.env.cells.lookup x = some c -> X.env.cells.lookup y = some c -> x = y
 has : ∀ x, (X.env.kindOf x = some .cell \/ X.env.kindOf x = some .free) -> ∃ c, X.env.cells.lookup x = some c
 cab : ∀ x c, X.fn x = true -> X.env.cells.lookup x = some c -> X.s₀.heap.objs.size <= c
 hd : X.calm = true -> X.A.handled = none
 frames : X.A.frames = some X.stack
 stk : X.stack = X.outer \/ (X.stack = X.env :: X.outer /\ X.env.frame = some X.env.locals)
 exf : ∀ b ∈ X.ex, b ≠ X.env.locals /\ ∀ x c, X.env.cells.lookup x = some c -> c ≠ b
 bs : ∀ b o, X.base.get? b = some o -> X.s₀.heap.get? b = some o /\ X.H₀ b = none
 bsz : X.base.objs.size <= X.s₀.heap.objs.size
 noex : ∀ b o, X.base.get? b = some o -> b ∉ X.ex
 exfs : ∀ b ∈ X.ex, b ∉ X.fs
 funs : X.s₀.heap.FunFrames X.base X.outer
 frf : ∀ b ∈ X.fs, X.H₀ b = none
structure Inv (X : Cx) (pins : List (Addr × Obj)) (σ : List (Option V)) (H : Hp) (s : Shared) : Prop where
 ok : X.Ok
 os : s.os = X.s₀.os
 bare : AllBare s.gens
 base : Un X.fs X.ex X.H₀ H X.s₀.heap s.heap
 loc : ∃ m, s.heap.Ns X.env.locals m /\ ∀ (i : Nat) (x : Str) (v : V), X.N[i]? = some x -> σ[i]? = some (some v) -> Vis X.env.scope x -> ∃ u, RelV v u /\ Look X.env s.heap m x u
 cell : ∀ x c, X.env.cells.lookup x = some c -> ∃ v, s.heap.IsCell c v
 free : H X.env.locals = none
 freeC : ∀ x c, X.env.cells.lookup x = some c -> H c = none
 pin : ∀ p ∈ X.pn ++ pins, s.heap.get? p.1 = some p.2 /\ H p.1 = none /\ p.1 ≠ X.env.locals /\ p.1 ∉ X.fs /\ ∀ v, p.2.data ≠ .cell v
 hok : HOk X.prog X.w H s.heap
 len : σ.length = X.N.length
section
variable {X : Cx} {pins : List (Addr × Obj)} {σ : List (Option V)} {H H' : Hp} {s : Shared} {h' : Heap}
theorem Cx.Ok.nofr (ok : X.Ok) {b : Addr} {o : Obj} (e : X.base.get? b = some o) : b ∉ X.fs := fun hb => by
 have := (ok.funs.mem hb).1
 rw [e] at this; cases this
theorem Inv.bs (I : Inv X pins σ H s) : ∀ b o, X.base.get? b = some o -> s.heap.get? b = some o /\ H b = none := fun b o e =>
 ⟨I.base.keep b o (I.ok.bs b o e).1 (I.ok.bs b o e).2 (I.ok.nofr e) (I.ok.noex b o e), I.base.free b o (I.ok.bs b o e).1 (I.ok.bs b o e).2 (I.ok.noex b o e)⟩
theorem Inv.bk (I : Inv X pins σ H s) : ∀ b o, X.base.get? b = some o -> s.heap.get? b = some o := fun b o e => (I.bs b o e).1
theorem Inv.mod (I : Inv X pins σ H s) : Mod X.K X.mg X.base := I.ok.mod
theorem Inv.kIn (I : Inv X pins σ H s) : X.K.In s.heap := I.ok.mod.kin.keeps I.bk
theorem Inv.lt (I : Inv X pins σ H s) : X.env.locals < s.heap.objs.size := let ⟨_, hn, _⟩ := I.loc; hn.lt
theorem Inv.sz (I : Inv X pins σ H s) : X.s₀.heap.objs.size <= s.heap.objs.size := Nat.le_trans I.ok.above (Nat.le_of_lt I.lt)
theorem Inv.nofs (I : Inv X pins σ H s) {a : Addr} (h : s.heap.objs.size <= a) : a ∉ X.fs := fun hb => by
 obtain ⟨_, o, ho, _⟩ := I.ok.funs.mem hb
 exact absurd (Nat.lt_of_lt_of_le (Heap.lt_size ho) (Nat.le_trans I.sz h)) (Nat.lt_irrefl _)
theorem Inv.cne (I : Inv X pins σ H s) : ∀ x c, X.env.cells.lookup x = some c -> c ≠ X.env.locals := fun x c e z => by
 obtain ⟨v, o, ho, hd⟩ := I.cell x c e
 obtain ⟨m, ⟨o', es, ep, ho', hd', _⟩, _⟩ := I.loc
 rw [z, ho'] at ho; cases ho; rw [hd'] at hd; cases hd
theorem Inv.funs (I : Inv X pins σ H s) : s.heap.FunFrames X.base X.outer := by
 have all : ∀ (l : List Env), (∀ b ∈ frs l, b ∈ X.fs) -> X.s₀.heap.FunFrames X.base l -> s.heap.FunFrames X.base l := by
  intro l
  induction l with
  | nil => intro _ _; trivial
  | cons env r ih =>
   intro hs hl
   obtain ⟨hk, ⟨L, o, hf, hn, ho, hd⟩, hr⟩ := hl
   have hL : L ∈ X.fs := hs L (by unfold frs; rw [List.filterMap_cons, hf]; exact List.mem_cons_self)
   obtain ⟨sl, e⟩ := I.base.slot L o ho (I.ok.frf L hL) hL fun z => I.ok.exfs L z hL
   exact ⟨hk, ⟨L, _, hf, hn, e, hd⟩, ih (fun b hb => hs b (by unfold frs; rw [List.filterMap_cons, hf]; exact List.mem_cons_of_mem _ hb)) hr⟩
 exact all X.outer (fun _ hb => hb) I.ok.funs
theorem Inv.stack (I : Inv X pins σ H s) : s.heap.FunFrames X.base X.stack := by
 rcases I.ok.stk with e | ⟨e, hf⟩
 ·rw [e]; exact I.funs
 ·rw [e]
  obtain ⟨m, hn, _⟩ := I.loc
  refine .cons (by rw [I.ok.kind]; decide) hf hn ?_ I.funs
  exact Heap.get?_none_of_le (Nat.le_trans I.ok.bsz I.ok.above)
theorem Inv.stkSub (I : Inv X pins σ H s) : ∀ b ∈ frs X.stack, b ∈ X.env.locals :: X.fs := fun b hb => by
 rcases I.ok.stk with e | ⟨e, hf⟩
 ·rw [e] at hb; exact List.mem_cons_of_mem _ hb
 ·rw [e] at hb
  unfold frs at hb
  rw [List.filterMap_cons, hf] at hb
  exact hb
theorem Inv.stkFree (I : Inv X pins σ H s) : ∀ b ∈ frs X.stack, H b = none := fun b hb => by
 rcases List.mem_cons.mp (I.stkSub b hb) with e | hb
 ·rw [e]; exact I.free
 ·obtain ⟨_, o, ho, _⟩ := I.ok.funs.mem hb
  exact I.base.free b o ho (I.ok.frf b hb) fun z => I.ok.exfs b z hb
theorem Inv.step {g' : Array GenState} {t' : Nat} {d' : Drawn} {ch : List Addr} (I : Inv X pins σ H s)
  (hch : ∀ b ∈ ch, (b ∈ X.ex \/ X.s₀.heap.objs.size <= b) /\ b ≠ X.env.locals /\ (∀ x c, X.env.cells.lookup x = some c -> c ≠ b) /\ ∀ p ∈ X.pn ++ pins, p.1 ≠ b)
  (keep : ∀ b o, b ≠ X.env.locals -> b ∉ X.fs -> b ∉ ch -> s.heap.get? b = some o -> H b = none -> h'.get? b = some o)
  (slot : ∀ b o, b ≠ X.env.locals -> b ∈ X.fs -> b ∉ ch -> s.heap.get? b = some o -> H b = none -> ∃ sl, h'.get? b = some { o with slots := sl }) (free : ∀ b o, b ∉ ch -> s.heap.get? b = some o -> H b = none -> H' b = none)
  (there : ∀ b o, b ∉ ch -> s.heap.get? b = some o -> ∃ o', h'.get? b = some o')
  (tups : ∀ b xs, H b = some (.tup xs) -> H' b = some (.tup xs)) (frzs : ∀ b o u, H b = some (.frz o u) -> H' b = some (.frz o u)) (tbls : ∀ b ps, H b = some (.tbl ps) -> ∃ more, H' b = some (.tbl (ps ++ more)))
  (ns : ∀ m, s.heap.Ns X.env.locals m -> h'.Ns X.env.locals m) (hok : HOk X.prog X.w H' h') (hg : AllBare g') :
  Inv X pins σ H' { s with heap := h', gens := g', drawn := d', toks := t' } := by
 have neL : ∀ b o, X.s₀.heap.get? b = some o -> b ≠ X.env.locals := fun b o e => Nat.ne_of_lt (Nat.lt_of_lt_of_le (Heap.lt_size e) I.ok.above)
 have neC : ∀ b o, X.s₀.heap.get? b = some o -> b ∉ X.ex -> b ∉ ch := fun b o e hx hb => by
  rcases (hch b hb).1 with z | z
  ·exact hx z
  ·exact absurd (Nat.lt_of_lt_of_le (Heap.lt_size e) z) (Nat.lt_irrefl _)
 have cellK : ∀ x c, X.env.cells.lookup x = some c -> ∀ v, s.heap.IsCell c v -> h'.IsCell c v := fun x c e v ⟨o, ho, hd⟩ => by
  have nch : c ∉ ch := fun z => (hch c z).2.2.1 x c e rfl
  by_cases hc : c ∈ X.fs
  ·obtain ⟨sl, q⟩ := slot c o (I.cne x c e) hc nch ho (I.freeC x c e)
   exact ⟨_, q, hd⟩
  ·exact ⟨o, keep c o (I.cne x c e) hc nch ho (I.freeC x c e), hd⟩
 refine ⟨I.ok, I.os, hg, ⟨fun b o e n hb hx => ?_, fun b o e n hb hx => ?_, fun b o e n hx => ?_, fun b o e hx => ?_, fun b xs e => tups b xs (I.base.tups b xs e), fun b o xs e => frzs b o xs (I.base.frzs b o xs e), fun b ps e => ?_⟩, ?_, fun x c e => ?_, ?_, fun x c e => ?_, fun p hp => ?_, hok, I.len⟩
 ·exact keep b o (neL b o e) hb (neC b o e hx) (I.base.keep b o e n hb hx) (I.base.free b o e n hx)
 ·obtain ⟨sl, e1⟩ := I.base.slot b o e n hb hx
  obtain ⟨sl', e2⟩ := slot b _ (neL b o e) hb (neC b o e hx) e1 (I.base.free b o e n hx)
  exact ⟨sl', e2⟩
 ·obtain ⟨o', e1⟩ := I.base.there b o e hx
  exact free b o' (neC b o e hx) e1 (I.base.free b o e n hx)
 ·obtain ⟨o', e1⟩ := I.base.there b o e hx
  exact there b o' (neC b o e hx) e1
 ·obtain ⟨m1, e1⟩ := I.base.tbls b ps e
  obtain ⟨m2, e2⟩ := tbls b _ e1
  exact ⟨m1 ++ m2, by rw [e2, Array.append_assoc]⟩
 ·obtain ⟨m, hn, hl⟩ := I.loc
  refine ⟨m, ns m hn, fun i x v e1 e2 e3 => ?_⟩
  obtain ⟨u, r, l⟩ := hl i x v e1 e2 e3
  refine ⟨u, r, ?_⟩
  rcases l with l | ⟨k, c, e, z⟩
  ·exact .inl l
  ·exact .inr ⟨k, c, e, cellK x c e _ z⟩
 ·obtain ⟨v, z⟩ := I.cell x c e
  exact ⟨v, cellK x c e v z⟩
 ·obtain ⟨m, ⟨o, _, _, ho, _⟩, _⟩ := I.loc
  exact free _ o (fun z => (hch _ z).2.1 rfl) ho I.free
 ·obtain ⟨v, o, ho, hd⟩ := I.cell x c e
  exact free c o (fun z => (hch c z).2.2.1 x c e rfl) ho (I.freeC x c e)
 ·obtain ⟨e, n, ne, nf, d⟩ := I.pin p hp
  have nch : p.1 ∉ ch := fun z => (hch p.1 z).2.2.2 p hp rfl
  exact ⟨keep p.1 p.2 ne nf nch e n, free p.1 p.2 nch e n, ne, nf, d⟩
theorem Inv.un {t' : Nat} (I : Inv X pins σ H s) (u : Un X.fs [] H H' s.heap h') (hok : HOk X.prog X.w H' h') : Inv X pins σ H' { s with heap := h', toks := t' } := by
 obtain ⟨m, ⟨o, es, ep, ho, r⟩, _⟩ := id I.loc
 obtain ⟨sl, hL⟩ := u.any ho I.free (by simp)
 exact I.step (g' := s.gens) (d' := s.drawn) (ch := []) (fun _ z => nomatch z) (fun b o _ hb _ e n => u.keep b o e n hb (by simp)) (fun b o _ hb _ e n => u.slot b o e n hb (by simp)) (fun b o _ e n => u.free b o e n (by simp)) (fun b o _ e => u.there b o e (by simp)) u.tups u.frzs u.tbls (fun m' hm => by
  obtain ⟨o', es', ep', ho', r'⟩ := hm
  rw [ho] at ho'; cases ho'
  exact ⟨_, es', ep', hL, r'⟩) hok I.bare
theorem Inv.call {g' : Array GenState} {t' : Nat} {d' : Drawn} {ch : List Addr} (I : Inv X pins σ H s) (u : Un (frs X.stack) ch H H' s.heap h') (hok : HOk X.prog X.w H' h') (hg : AllBare g')
  (hch : ∀ b ∈ ch, (b ∈ X.ex \/ X.s₀.heap.objs.size <= b) /\ b ≠ X.env.locals /\ (∀ x c, X.env.cells.lookup x = some c -> c ≠ b) /\ ∀ p ∈ X.pn ++ pins, p.1 ≠ b) :
  Inv X pins σ H' { s with heap := h', gens := g', drawn := d', toks := t' } := by
 obtain ⟨m, ⟨o, es, ep, ho, r⟩, _⟩ := id I.loc
 obtain ⟨sl, hL⟩ := u.any ho I.free fun z => (hch _ z).2.1 rfl
 exact I.step (ch := ch) hch (fun b o hL hb hc e n => u.keep b o e n (fun z => (List.mem_cons.mp (I.stkSub b z)).elim hL hb) hc) (fun b o _ _ hc e n => u.any e n hc) (fun b o hc e n => u.free b o e n hc) (fun b o hc e => u.there b o e hc) u.tups u.frzs u.tbls (fun m' hm => by
  obtain ⟨o', es', ep', ho', r'⟩ := hm
  rw [ho] at ho'; cases ho'
  exact ⟨_, es', ep', hL, r'⟩) hok hg
theorem Inv.turned {t' : Nat} {it : Addr} (I : Inv X pins σ H s) (k : ∀ b o, b ≠ it -> s.heap.get? b = some o -> h'.get? b = some o) (hn : H it = none) (hL : it ≠ X.env.locals)
  (h1 : it ∈ X.ex \/ X.s₀.heap.objs.size <= it) (h2 : ∀ x c, X.env.cells.lookup x = some c -> c ≠ it) (h3 : ∀ p ∈ X.pn ++ pins, p.1 ≠ it) : Inv X pins σ H { s with heap := h', toks := t' } := by
 have nit : ∀ b u, H b = some u -> b ≠ it := fun b u e z => by rw [z, hn] at e; cases e
 refine I.step (g' := s.gens) (d' := s.drawn) (ch := [it]) (fun b hb => ?_) (fun b o _ _ hc e _ => k b o (fun z => hc (by simp [z])) e) (fun b o _ _ hc e _ => ⟨o.slots, k b o (fun z => hc (by simp [z])) e⟩) (fun _ _ _ _ n => n)
  (fun b o hc e => ⟨o, k b o (fun z => hc (by simp [z])) e⟩) (fun _ _ e => e) (fun _ _ _ e => e) (fun b ps e => ⟨#[], by rw [e]; simp⟩) (fun m hm => ?_) (fun b u e => ?_) I.bare
 ·have e : b = it := by simpa using hb
  subst e
  exact ⟨h1, hL, h2, h3⟩
 ·obtain ⟨o, es, ep, ho, r⟩ := hm
  exact ⟨o, es, ep, k _ o (Ne.symm hL) ho, r⟩
 ·refine (I.hok b u e).stay (fun c v hc q => k c v ?_ q) (fun _ q => q) fun _ _ q => q
  rcases hc with z | z
  ·rw [z]; exact nit b u e
  ·exact nit c _ z
theorem Inv.tok (I : Inv X pins σ H s) (t : Nat) : Inv X pins σ H { s with toks := t } := I.un (h' := s.heap) (t' := t) Un.refl I.hok
theorem Inv.kept {t' : Nat} (I : Inv X pins σ H s) (k : ∀ b u, s.heap.get? b = some u -> h'.get? b = some u) : Inv X pins σ H { s with heap := h', toks := t' } := I.un (Un.kept k) (I.hok.kept k)
theorem Inv.laid {a : Addr} {o : HO} {t' : Nat} (I : Inv X pins σ H s) (k : ∀ b u, s.heap.get? b = some u -> h'.get? b = some u) (hp : s.heap.objs.size <= a) (new : ObjOk X.prog X.w (upd H a o) h' a o) :
  Inv X pins σ (upd H a o) { s with heap := h', toks := t' } := I.un (Un.laid k hp (I.hok.fresh hp)) (I.hok.laid k hp new)
theorem Inv.write {x e : Addr} {o : HO} {t' : Nat} (I : Inv X pins σ H s) (mu : Mut (H x)) (he : e = x \/ H e = some (.own x)) (k : ∀ b u, b ≠ e -> s.heap.get? b = some u -> h'.get? b = some u) (heo : ∃ u, h'.get? e = some u)
  (new : ObjOk X.prog X.w (upd H x o) h' x o) : Inv X pins σ (upd H x o) { s with heap := h', toks := t' } := I.un (Un.write mu he k heo) (I.hok.write mu he k heo new)
theorem Inv.pins_of {pins' : List (Addr × Obj)} (I : Inv X pins σ H s) (h : ∀ p ∈ pins', s.heap.get? p.1 = some p.2 /\ H p.1 = none /\ p.1 ≠ X.env.locals /\ p.1 ∉ X.fs /\ ∀ v, p.2.data ≠ .cell v) : Inv X pins' σ H s :=
 ⟨I.ok, I.os, I.bare, I.base, I.loc, I.cell, I.free, I.freeC, fun p hp => (List.mem_append.mp hp).elim (fun z => I.pin p (List.mem_append_left _ z)) (h p), I.hok, I.len⟩
theorem nodup_ix {N : List Str} (hN : N.Nodup) {i j : Nat} {x : Str} (a : N[i]? = some x) (b : N[j]? = some x) : i = j := by
 obtain ⟨h1, e1⟩ := List.getElem?_eq_some_iff.mp a
 obtain ⟨h2, e2⟩ := List.getElem?_eq_some_iff.mp b
 exact (List.getElem_inj hN).mp (e1.trans e2.symm)
theorem store_ok2 {M : Model} {A : Around} {E : Value -> Shared -> Prop} {i : Nat} {x : Str} {v : V} {u : Value} {Q : Unit -> Shared -> Prop} (I : Inv X pins σ H s) (hN : X.N.Nodup) (hi : X.N[i]? = some x) (hx : Loc X.env.scope x) (r : RelV v u)
  (h : ∀ s', Inv X pins (σ.set i (some v)) H s' -> (∃ a, Heap.SameBut a s.heap s'.heap /\ (a = X.env.locals \/ X.env.cells.lookup x = some a)) -> Q () s') (hf : X.fn x = true \/ X.env.scope.names.lookup x = some .local := by first | exact .inl rfl | exact .inr rfl | assumption) : wpAny M A (storeName X.env x u) Q E s := by
 obtain ⟨m, hn, hl⟩ := id I.loc
 have hcls : (X.env.scope.kind == .class || (X.env.scope.kind == .module && X.env.locals != X.env.globals)) = false := by rw [I.ok.kind]; rfl
 have hiσ : i < σ.length := by rw [I.len]; exact (List.getElem?_eq_some_iff.mp hi).1
 have cne := I.cne
 have tracked : ∀ {a : Addr} {h' : Heap}, (∃ o, s.heap.get? a = some o /\ H a = none) -> Heap.SameBut a s.heap h' -> HOk X.prog X.w H h' := fun {a h'} ha hs b ob e => by
  obtain ⟨_, _, hfree⟩ := ha
  refine (I.hok b ob e).stay (fun c w' hc q => (hs.2 c ?_).trans q) (fun _ q => q) fun _ _ q => q
  rintro rfl
  rcases hc with rfl | hc
  ·rw [hfree] at e; cases e
  ·rw [hfree] at hc; cases hc
 rcases hx with hk | hk
 ·refine wpAny_storeName_local hk hn (fun h' hn' hs => ?_) hcls
  obtain ⟨oL, _, _, hoL, _⟩ := id hn
  refine h _ ⟨I.ok, I.os, I.bare, ⟨fun b o e n hb hx => ?_, fun b o e n hb hx => ?_, I.base.free, fun b o e hx => ?_, I.base.tups, I.base.frzs, I.base.tbls⟩, ⟨_, hn', fun j y v' e1 e2 e3 => ?_⟩, fun y c e => ?_, I.free, I.freeC, fun p hp => ?_, tracked ⟨oL, hoL, I.free⟩ hs, by simpa using I.len⟩ ⟨_, hs, .inl rfl⟩
  ·exact (hs.2 b (Nat.ne_of_lt (Nat.lt_of_lt_of_le (Heap.lt_size e) I.ok.above))).trans (I.base.keep b o e n hb hx)
  ·obtain ⟨sl, e1⟩ := I.base.slot b o e n hb hx
   exact ⟨sl, (hs.2 b (Nat.ne_of_lt (Nat.lt_of_lt_of_le (Heap.lt_size e) I.ok.above))).trans e1⟩
  ·obtain ⟨o', e1⟩ := I.base.there b o e hx
   exact ⟨o', (hs.2 b (Nat.ne_of_lt (Nat.lt_of_lt_of_le (Heap.lt_size e) I.ok.above))).trans e1⟩
  ·by_cases hj : j = i
   ·subst hj
    rw [hi] at e1; cases e1
    rw [List.getElem?_set_self hiσ] at e2
    cases e2
    exact ⟨u, r, .inl ⟨hk, by simp⟩⟩
   ·rw [List.getElem?_set_ne (Ne.symm hj)] at e2
    obtain ⟨u', r', q⟩ := hl j y v' e1 e2 e3
    refine ⟨u', r', ?_⟩
    rcases q with ⟨k, e⟩ | ⟨k, c, e, z⟩
    ·refine .inl ⟨k, ?_⟩
     have : y ≠ x := fun e => hj (nodup_ix hN e1 (e ▸ hi))
     simp [this, e]
    ·exact .inr ⟨k, c, e, z.sameBut hs (cne y c e)⟩
  ·obtain ⟨w', z⟩ := I.cell y c e
   exact ⟨w', z.sameBut hs (cne y c e)⟩
  ·obtain ⟨e, n, ne, nf, d⟩ := I.pin p hp
   exact ⟨(hs.2 p.1 ne).trans e, n, ne, nf, d⟩
 ·have hfn : X.fn x = true := by
   rcases hf with z | z
   ·exact z
   ·rw [z] at hk; cases hk
  obtain ⟨c, hc⟩ := I.ok.has x (.inl hk)
  obtain ⟨w', z⟩ := I.cell x c hc
  refine wpAny_storeName_cell I.ok.kind hk hc z (fun h' hc' hs => ?_)
  obtain ⟨oc, hoc, hocd⟩ := id z
  refine h { s with heap := h' } ⟨I.ok, I.os, I.bare, ⟨fun b o e n hb hx => ?_, fun b o e n hb hx => ?_, I.base.free, fun b o e hx => ?_, I.base.tups, I.base.frzs, I.base.tbls⟩, ⟨m, hn.sameBut hs (Ne.symm (cne x c hc)), fun j y v' e1 e2 e3 => ?_⟩, fun y c' e => ?_, I.free, I.freeC, fun p hp => ?_, tracked ⟨oc, hoc, I.freeC x c hc⟩ hs, by simpa using I.len⟩ ⟨c, hs, .inr hc⟩
  ·exact (hs.2 b (Nat.ne_of_lt (Nat.lt_of_lt_of_le (Heap.lt_size e) (I.ok.cab x c hfn hc)))).trans (I.base.keep b o e n hb hx)
  ·obtain ⟨sl, e1⟩ := I.base.slot b o e n hb hx
   exact ⟨sl, (hs.2 b (Nat.ne_of_lt (Nat.lt_of_lt_of_le (Heap.lt_size e) (I.ok.cab x c hfn hc)))).trans e1⟩
  ·obtain ⟨o', e1⟩ := I.base.there b o e hx
   exact ⟨o', (hs.2 b (Nat.ne_of_lt (Nat.lt_of_lt_of_le (Heap.lt_size e) (I.ok.cab x c hfn hc)))).trans e1⟩
  ·by_cases hj : j = i
   ·subst hj
    rw [hi] at e1; cases e1
    rw [List.getElem?_set_self hiσ] at e2
    cases e2
    exact ⟨u, r, .inr ⟨.inl hk, c, hc, hc'⟩⟩
   ·rw [List.getElem?_set_ne (Ne.symm hj)] at e2
    obtain ⟨u', r', q⟩ := hl j y v' e1 e2 e3
    refine ⟨u', r', ?_⟩
    rcases q with q | ⟨k, c', e, z'⟩
    ·exact .inl q
    ·refine .inr ⟨k, c', e, z'.sameBut hs ?_⟩
     rintro rfl
     exact hj (nodup_ix hN e1 (I.ok.inj _ _ _ e hc ▸ hi))
  ·by_cases hcc : c' = c
   ·subst hcc; exact ⟨_, hc'⟩
   ·obtain ⟨w2, z2⟩ := I.cell y c' e
    exact ⟨w2, z2.sameBut hs hcc⟩
  ·obtain ⟨e, n, ne, nf, d⟩ := I.pin p hp
   refine ⟨(hs.2 p.1 ?_).trans e, n, ne, nf, d⟩
   intro q
   rw [q, hoc] at e
   have q' : oc = p.2 := Option.some.inj e
   exact d w' (by rw [<- q']; exact hocd)
theorem store_ok {M : Model} {A : Around} {E : Value -> Shared -> Prop} {i : Nat} {x : Str} {v : V} {u : Value} {Q : Unit -> Shared -> Prop} (I : Inv X pins σ H s) (hN : X.N.Nodup) (hi : X.N[i]? = some x) (hx : Loc X.env.scope x) (r : RelV v u)
  (h : ∀ s', Inv X pins (σ.set i (some v)) H s' -> Q () s') (hf : X.fn x = true \/ X.env.scope.names.lookup x = some .local := by first | exact .inl rfl | exact .inr rfl | assumption) : wpAny M A (storeName X.env x u) Q E s :=
 store_ok2 I hN hi hx r (fun s' I' _ => h s' I') hf
theorem Inv.call' {s' : Shared} {ch : List Addr} (I : Inv X pins σ H s) (ho : s'.os = s.os) (u : Un (frs X.stack) ch H H' s.heap s'.heap) (hok : HOk X.prog X.w H' s'.heap) (hg : AllBare s'.gens)
  (hch : ∀ b ∈ ch, (b ∈ X.ex \/ X.s₀.heap.objs.size <= b) /\ b ≠ X.env.locals /\ (∀ x c, X.env.cells.lookup x = some c -> c ≠ b) /\ ∀ p ∈ X.pn ++ pins, p.1 ≠ b) : Inv X pins σ H' s' := by
 obtain ⟨h', g', d', t', o'⟩ := s'
 have e : o' = s.os := ho
 subst e
 exact I.call (g' := g') (t' := t') (d' := d') u hok hg hch
end
abbrev XK := Value -> Option Addr -> Hp -> Prop
abbrev St := List (Option V)
abbrev VK := V -> Hp -> Prop
abbrev TE := St -> Hp -> VK -> Prop
abbrev TT := St -> Hp -> (Bool -> Hp -> Prop) -> Prop
abbrev TA := St -> Hp -> (List V -> Hp -> Prop) -> Prop
structure Ends where
 nx : St -> Hp -> Prop
 rt : VK
 bk : St -> Hp -> Prop := fun _ _ => False
 ct : St -> Hp -> Prop := fun _ _ => False
abbrev TS := Ends -> St -> Hp -> Prop
def EP (X : Cx) (pins : List (Addr × Obj)) (σ : St) (Q : VK) (u : Value) (s' : Shared) : Prop := ∃ v H', Inv X pins σ H' s' /\ RelV v u /\ Q v H'
def TP (X : Cx) (pins : List (Addr × Obj)) (σ : St) (Q : Bool -> Hp -> Prop) (b : Bool) (s' : Shared) : Prop := ∃ H', Inv X pins σ H' s' /\ Q b H'
def AP (X : Cx) (pins : List (Addr × Obj)) (σ : St) (Q : List V -> Hp -> Prop) (us : List Value) (s' : Shared) : Prop := ∃ vs H', Inv X pins σ H' s' /\ Vals vs us /\ Q vs H'
def SP (X : Cx) (pins : List (Addr × Obj)) (D : Ends) (f : Flow) (s' : Shared) : Prop :=
 match f with
 | .next => ∃ σ' H', Inv X pins σ' H' s' /\ D.nx σ' H'
 | .brk => ∃ σ' H', Inv X pins σ' H' s' /\ D.bk σ' H'
 | .cont => ∃ σ' H', Inv X pins σ' H' s' /\ D.ct σ' H'
 | .ret u => ∃ v σ' H', Inv X pins σ' H' s' /\ RelV v u /\ D.rt v H'
def PE (X : Cx) (e : Expr) (t : TE) : Prop :=
 ∀ (pins : List (Addr × Obj)) (s : Shared) (σ : St) (H : Hp) (Q : VK), Inv X pins σ H s -> t σ H Q -> wpAny (model X.prog X.w) X.A (eval e X.env) (EP X pins σ Q) X.xe s
def PT (X : Cx) (e : Expr) (t : TT) : Prop :=
 ∀ (pins : List (Addr × Obj)) (s : Shared) (σ : St) (H : Hp) (Q : Bool -> Hp -> Prop), Inv X pins σ H s -> t σ H Q -> wpAny (model X.prog X.w) X.A (isTrue e X.env (eval e X.env)) (TP X pins σ Q) X.xe s
def PW (X : Cx) (e : Expr) (t : TT) : Prop :=
 ∀ (whole : Sem Value) (pins : List (Addr × Obj)) (s : Shared) (σ : St) (H : Hp) (Q : Bool -> Hp -> Prop), Inv X pins σ H s -> t σ H Q -> wpAny (model X.prog X.w) X.A (isTrue e X.env whole) (TP X pins σ Q) X.xe s
theorem PW.pt {X : Cx} {e : Expr} {t : TT} (h : PW X e t) : PT X e t := h _
def PA (X : Cx) (es : List Expr) (t : TA) : Prop :=
 ∀ (pos : Pos) (pins : List (Addr × Obj)) (s : Shared) (σ : St) (H : Hp) (Q : List V -> Hp -> Prop), Inv X pins σ H s -> t σ H Q -> wpAny (model X.prog X.w) X.A (spliced (backTo pos (starEach es X.env))) (AP X pins σ Q) X.xe s
def PS (X : Cx) (st : Stmt) (t : TS) : Prop :=
 ∀ (pins : List (Addr × Obj)) (s : Shared) (σ : St) (H : Hp) (D : Ends), Inv X pins σ H s -> t D σ H -> wpAny (model X.prog X.w) X.A (exec st X.env) (SP X pins D) X.xe s
def PSs (X : Cx) (st : List Stmt) (t : TS) : Prop :=
 ∀ (pins : List (Addr × Obj)) (s : Shared) (σ : St) (H : Hp) (D : Ends), Inv X pins σ H s -> t D σ H -> wpAny (model X.prog X.w) X.A (execs st X.env) (SP X pins D) X.xe s
theorem thn {α : Type} {t : Sem α} {Q Q' : α -> Shared -> Prop} {M : Model} {A : Around} {E : Value -> Shared -> Prop} {s : Shared} (h : wpAny M A t Q E s) (hQ : ∀ a s, Q a s -> Q' a s) : wpAny M A t Q' E s := wpAny_mono h hQ fun _ _ x => x
end L2
namespace L2
open PySem PySem.Spec PyProof.Rows
section
variable {X : Cx}
theorem bin {a b : Expr} {ta tb : TE} (ha : PE X a ta) (hb : PE X b tb) {pins : List (Addr × Obj)} {s : Shared} {σ : St} {H : Hp} {R : V -> V -> Hp -> Prop} (I : Inv X pins σ H s) (h : ta σ H fun x H1 => tb σ H1 fun y H2 => R x y H2)
  {α : Type} {Q : α -> Shared -> Prop} {f : Value -> Value -> Sem α}
  (hf : ∀ v u s2 x y H2, Inv X pins σ H2 s2 -> RelV x v -> RelV y u -> R x y H2 -> wpAny (model X.prog X.w) X.A (f v u) Q X.xe s2) :
  wpAny (model X.prog X.w) X.A (eval a X.env) (fun v s₁ => wpAny (model X.prog X.w) X.A (eval b X.env) (fun u s₂ => wpAny (model X.prog X.w) X.A (f v u) Q X.xe s₂) X.xe s₁) X.xe s := by
 refine thn (ha pins s σ H _ I h) fun v s1 ⟨x, H1, I1, r1, q1⟩ => ?_
 refine thn (hb pins s1 σ H1 _ I1 q1) fun u s2 ⟨y, H2, I2, r2, q2⟩ => ?_
 exact hf v u s2 x y H2 I2 r1 r2 q2
def tVar (i : Nat) : TE := fun σ H Q => ∃ v, σ[i]? = some (some v) /\ Q v H
def tC (v : V) : TE := fun _ H Q => Q v H
theorem pe_var {i : Nat} {x : Str} {pos : Pos} (hN : X.N[i]? = some x) (hv : Vis X.env.scope x) (hd : (x == ("__debug__" : Str)) = false := by decide) (hcd : (x == ("__classdict__" : Str)) = false := by decide) : PE X (.Name x pos) (tVar i) := by
 intro pins s σ H Q I h
 obtain ⟨v, e, h⟩ := h
 obtain ⟨m, hn, hl⟩ := I.loc
 obtain ⟨u, r, l⟩ := hl i x v hN e hv
 have fin : EP X pins σ Q u s := ⟨v, H, I, r, h⟩
 rcases l with ⟨hk, hm⟩ | ⟨hk, c, hc, hcell⟩
 ·exact wpAny_Name (wpAny_loadName_local I.ok.kind hk hn hm fin) hd
 ·rcases hk with hk | hk
  ·exact wpAny_Name (wpAny_loadName_cell I.ok.kind hk hc hcell fin) hd
  ·exact wpAny_Name (wpAny_loadName_free I.ok.kind hk hc hcell fin hcd) hd
theorem pe_int {i j pos} : PE X (.Constant (.int i) j pos) (tC (.int i)) := fun _ _ _ H _ I h => wpAny_Constant_int ⟨.int i, H, I.tok _, ⟨_, rfl⟩, h⟩
theorem pe_bl {b j pos} : PE X (.Constant (.bool b) j pos) (tC (.bl b)) := fun _ _ _ H _ I h => Constant_bool ⟨.bl b, H, I, rfl, h⟩
theorem pe_non {j pos} : PE X (.Constant .none j pos) (tC .non) := fun _ _ _ H _ I h => Constant_none ⟨.non, H, I, rfl, h⟩
theorem pe_str {x j pos} : PE X (.Constant (.str x) j pos) (tC (.str x)) := fun _ _ _ H _ I h => Calls.Constant_str ⟨.str x, H, I.tok _, ⟨_, rfl⟩, h⟩
def Gl (X : Cx) (x : Str) : Prop := X.env.kindOf x = some .globalImplicit
theorem ld_glob {E : Value -> Shared -> Prop} {pins : List (Addr × Obj)} {s : Shared} {σ : St} {H : Hp} {x : Str} {u : Value} {pos : Pos} {Q : Value -> Shared -> Prop} (I : Inv X pins σ H s) (hg : Gl X x) (hm : X.mg x = some u) (h : Q u s)
  (hd : (x == ("__debug__" : Str)) = false := by decide) : wpAny (model X.prog X.w) X.A (eval (.Name x pos) X.env) Q E s :=
 Calls.Name_function_global I.ok.kind hg (Calls.loadGlobal_global (by rw [I.ok.glob]; exact I.mod.glob.keeps I.bk) hm h) hd
theorem ld_blt {E : Value -> Shared -> Prop} {pins : List (Addr × Obj)} {s : Shared} {σ : St} {H : Hp} {x : Str} {u : Value} {pos : Pos} {Q : Value -> Shared -> Prop} (I : Inv X pins σ H s) (hg : Gl X x) (hm : X.mg x = none) (hv : bootBuiltins x = some u) (h : Q u s)
  (hn : x ≠ "__name__" := by decide) (hd : (x == ("__debug__" : Str)) = false := by decide) : wpAny (model X.prog X.w) X.A (eval (.Name x pos) X.env) Q E s := by
 obtain ⟨mb, h1, h2⟩ := I.mod.blt
 exact Calls.Name_function_global I.ok.kind hg (Calls.loadGlobal_builtin (by rw [I.ok.glob]; exact I.mod.glob.keeps I.bk) hm (by rw [I.ok.blt]; exact h1.keeps I.bk) ((h2 x hn).trans hv) h) hd
theorem pe_bltn {x : Str} {v : V} {u : Value} {pos : Pos} (hg : Gl X x) (hm : X.mg x = none) (hv : bootBuiltins x = some u) (r : RelV v u) (hn : x ≠ "__name__" := by decide) (hd : (x == ("__debug__" : Str)) = false := by decide) : PE X (.Name x pos) (tC v) :=
 fun _ _ _ H _ I h => ld_blt I hg hm hv ⟨v, H, I, r, h⟩ hn hd
variable {a b : Expr} {ta tb : TE} {pos : Pos}
def PC (X : Cx) (op : CmpOp) (a b : Expr) (t : TE) : Prop :=
 ∀ (pins : List (Addr × Obj)) (s : Shared) (σ : St) (H : Hp) (Q : VK), Inv X pins σ H s -> t σ H Q ->
  wpAny (model X.prog X.w) X.A (eval a X.env) (fun v s₁ => wpAny (model X.prog X.w) X.A (eval b X.env) (fun u s₂ => wpAny (model X.prog X.w) X.A (compareOp op v u) (EP X pins σ Q) X.xe s₂) X.xe s₁) X.xe s
theorem nobehind (b : Expr) {op : CmpOp} (h : op ≠ .In) (h2 : op ≠ .NotIn) : behindInMarks op b = false := by
 have e1 : (op == CmpOp.In) = false := by cases op <;> first | rfl | exact absurd rfl h
 have e2 : (op == CmpOp.NotIn) = false := by cases op <;> first | rfl | exact absurd rfl h2
 cases b <;> simp [behindInMarks, e1, e2]
def tB (t : TE) : TT := fun σ H Q => t σ H fun x H1 => ∃ c, x = .bl c /\ Q c H1
theorem pt_cmp {op : CmpOp} {t : TE} (h : PC X op a b t) (h1 : behindInMarks op b = false := by first | exact nobehind _ (by decide) (by decide) | rfl) : PT X (.Compare a [op] [b] pos) (tB t) := by
 intro pins s σ H Q I hw
 refine wpAny_isTrue_Compare1 (thn (h pins s σ H _ I hw) fun v s1 h1 => thn h1 fun u s2 h2 => thn h2 fun c s3 ⟨x, H1, I1, r1, q1⟩ => ?_) h1
 obtain ⟨d, rfl, q⟩ := q1
 cases r1
 exact wpAny_truthy_bool ⟨H1, I1, q⟩
theorem pt_val {e : Expr} {t : TE} (h : PE X e t) (he : ∀ whole, isTrue e X.env whole = (do let v <- whole; standAt e.pos; holding [v] (truthy v)) := by intro _; rfl) : PT X e (tB t) := by
 intro pins s σ H Q I hw
 refine isTrue_plain (thn (h pins s σ H _ I hw) fun v s1 ⟨x, H1, I1, r1, q1⟩ => ?_) (he _)
 obtain ⟨d, rfl, q⟩ := q1
 cases r1
 exact wpAny_truthy_bool ⟨H1, I1, q⟩
variable {tA tB' : TT} {rest : List Expr}
def tOr (t u : TT) : TT := fun σ H Q => t σ H fun c H1 => if c = true then Q true H1 else u σ H1 Q
def tNot (t : TT) : TT := fun σ H Q => t σ H fun c H1 => Q (!c) H1
theorem pw_or1 (ha : PT X a tA) : PW X (.BoolOp .Or [a] pos) tA := by
 intro wh pins s σ H Q I h
 refine isTrue_or (thn (ha pins s σ H Q I h) fun c s1 e => ?_)
 cases c with
 | false => exact isTrue_or_nil e
 | true => exact e
theorem pw_or (ha : PT X a tA) (hb : PW X (.BoolOp .Or (b :: rest) pos) tB') : PW X (.BoolOp .Or (a :: b :: rest) pos) (tOr tA tB') := by
 intro wh pins s σ H Q I h
 refine isTrue_or (thn (ha pins s σ H _ I h) fun c s1 ⟨H1, I1, q1⟩ => ?_)
 cases c with
 | true => exact ⟨H1, I1, q1⟩
 | false => exact hb wh pins s1 σ H1 Q I1 q1
theorem pt_not (ha : PT X a tA) : PT X (.UnaryOp .Not a pos) (tNot tA) := by
 intro pins s σ H Q I h
 exact isTrue_not (ha pins s σ H (fun c H1 => Q (!c) H1) I h)
def tAndV (ta tb : TE) : TE := fun σ H Q => ta σ H fun x H1 => ∃ c, x = .bl c /\ if c = true then tb σ H1 Q else Q (.bl false) H1
theorem pe_one {op} {t : TE} (h : PE X a t) : PE X (.BoolOp op [a] pos) t := fun pins s σ H Q I hw => BoolOp_one (h pins s σ H Q I hw)
theorem pe_and (ha : PE X a ta) (hb : PE X (.BoolOp .And (b :: rest) pos) tb) : PE X (.BoolOp .And (a :: b :: rest) pos) (tAndV ta tb) := by
 intro pins s σ H Q I h
 refine BoolOp_and (thn (ha pins s σ H _ I h) fun v s1 ⟨x, H1, I1, r1, q1⟩ => ?_)
 obtain ⟨c, rfl, q1⟩ := q1
 cases r1
 refine wpAny_truthy_bool ?_
 cases c with
 | true => exact hb pins s1 σ H1 Q I1 q1
 | false => exact ⟨.bl false, H1, I1, rfl, q1⟩
end
end L2
namespace L2
open PySem PySem.Spec PyProof.Rows
def SqL (K : PySem.W.Frag) (H : Hp) (a : Addr) (xs : List V) : Prop :=
 Rd H a (.lst xs) \/
  ∃ (o : Obj) (its : Array Value) (n : Nat), K.lookup a = some o /\ o.cls = .type "list" /\ o.dict = none /\ o.data = .seq its n /\ its.size <= sizeLine /\ Vals xs its.toList
def SqT (K : PySem.W.Frag) (H : Hp) (a : Addr) (xs : List V) : Prop :=
 Rd H a (.tup xs) \/
  ∃ (o : Obj) (its : Array Value) (n : Nat), K.lookup a = some o /\ o.cls = .type "tuple" /\ o.data = .seq its n /\ its.size <= sizeLine /\ Vals xs its.toList
def absV : Value -> Option V
 | .none => some .non
 | .bool b => some (.bl b)
 | .int i _ => some (.int i)
 | .str x _ => some (.str x)
 | .bytes b _ => some (.byt b)
 | .float b _ => some (.flt b)
 | .ref a => some (.ref a)
 | .type n => some (.ty n)
 | _ => none
theorem RelV.abs {x : V} {u : Value} (r : RelV x u) : absV u = some x := by
 cases x with
 | non => cases r; rfl
 | bl _ => cases r; rfl
 | int _ => obtain ⟨t, rfl⟩ := r; rfl
 | str _ => obtain ⟨t, rfl⟩ := r; rfl
 | byt _ => obtain ⟨t, rfl⟩ := r; rfl
 | flt _ => obtain ⟨t, rfl⟩ := r; rfl
 | ref _ => cases r; rfl
 | ty _ => cases r; rfl
theorem RelV.inj {x y : V} {u : Value} (r : RelV x u) (q : RelV y u) : x = y := Option.some.inj (r.abs.symm.trans q.abs)
theorem Vals.inj : ∀ {xs ys : List V} {us : List Value}, Vals xs us -> Vals ys us -> xs = ys
 | _, _, _, .nil, .nil => rfl
 | _, _, _, .cons r t, .cons r' t' => by rw [r.inj r', Vals.inj t t']
section
variable {X : Cx} {pins : List (Addr × Obj)} {σ : St} {H : Hp} {s : Shared} {a : Addr} {xs ys : List V}
theorem SqL.of {K : PySem.W.Frag} (h : H a = some (.lst xs)) : SqL K H a xs := .inl (.inl h)
theorem SqT.of {K : PySem.W.Frag} (h : H a = some (.tup xs)) : SqT K H a xs := .inl (.inl h)
theorem Inv.list (I : Inv X pins σ H s) (h : SqL X.K H a xs) : ∃ its : List Value, Vals xs its /\ PlainL s.heap a its.toArray /\ xs.length <= sizeLine := by
 rcases h with h | ⟨o, its, n, hk, hc, hd, hs, hz, r⟩
 ·obtain ⟨z, its, n, r, e⟩ := h.ok I.hok
  exact ⟨its, r, ⟨_, n, e, rfl, rfl, rfl⟩, z⟩
 ·refine ⟨its.toList, r, ⟨o, n, I.kIn a o hk, hc, hd, by simpa using hs⟩, ?_⟩
  have e := r.length
  simp only [Array.length_toList] at e
  omega
theorem Inv.tuple (I : Inv X pins σ H s) (h : SqT X.K H a xs) : ∃ its : List Value, Vals xs its /\ IsTup s.heap a its.toArray /\ xs.length <= sizeLine := by
 rcases h with h | ⟨o, its, n, hk, hc, hs, hz, r⟩
 ·obtain ⟨z, its, r, p⟩ := h.ok I.hok
  exact ⟨its, r, p, z⟩
 ·refine ⟨its.toList, r, ⟨o, I.kIn a o hk, hc, n, by simpa using hs⟩, ?_⟩
  have e := r.length
  simp only [Array.length_toList] at e
  omega
theorem Inv.list_inj (I : Inv X pins σ H s) (h : SqL X.K H a xs) (h' : SqL X.K H a ys) : xs = ys := by
 obtain ⟨its, r, ⟨o, n, e, _, _, d⟩, _⟩ := I.list h
 obtain ⟨its', r', ⟨o', n', e', _, _, d'⟩, _⟩ := I.list h'
 rw [e] at e'; cases e'
 rw [d] at d'
 injection d' with d1 _
 have : its = its' := by simpa using congrArg Array.toList d1
 subst this
 exact r.inj r'
theorem Inv.tuple_inj (I : Inv X pins σ H s) (h : SqT X.K H a xs) (h' : SqT X.K H a ys) : xs = ys := by
 obtain ⟨its, r, ⟨o, e, _, n, d⟩, _⟩ := I.tuple h
 obtain ⟨its', r', ⟨o', e', _, n', d'⟩, _⟩ := I.tuple h'
 rw [e] at e'; cases e'
 rw [d] at d'
 injection d' with d1 _
 have : its = its' := by simpa using congrArg Array.toList d1
 subst this
 exact r.inj r'
end
abbrev Cx.wish (X : Cx) (E : Value -> Shared -> Prop) : Cx := { X with xe := E }
abbrev Cx.nox (X : Cx) : Cx := X.wish fun _ _ => False
theorem Cx.Ok.wish {X : Cx} (ok : X.Ok) (E : Value -> Shared -> Prop) : (X.wish E).Ok :=
 ⟨ok.mod, ok.kind, ok.glob, ok.blt, ok.above, ok.inj, ok.has, ok.cab, ok.hd, ok.frames, ok.stk, ok.exf, ok.bs, ok.bsz, ok.noex, ok.exfs, ok.funs, ok.frf⟩
theorem Cx.Ok.unwish {X : Cx} {E : Value -> Shared -> Prop} (ok : (X.wish E).Ok) : X.Ok :=
 ⟨ok.mod, ok.kind, ok.glob, ok.blt, ok.above, ok.inj, ok.has, ok.cab, ok.hd, ok.frames, ok.stk, ok.exf, ok.bs, ok.bsz, ok.noex, ok.exfs, ok.funs, ok.frf⟩
section
variable {X : Cx} {pins : List (Addr × Obj)} {σ : St} {H : Hp} {s : Shared} {E : Value -> Shared -> Prop}
theorem Inv.wish (I : Inv X pins σ H s) (E : Value -> Shared -> Prop) : Inv (X.wish E) pins σ H s := ⟨I.ok.wish E, I.os, I.bare, I.base, I.loc, I.cell, I.free, I.freeC, I.pin, I.hok, I.len⟩
theorem Inv.unwish (I : Inv (X.wish E) pins σ H s) : Inv X pins σ H s := ⟨I.ok.unwish, I.os, I.bare, I.base, I.loc, I.cell, I.free, I.freeC, I.pin, I.hok, I.len⟩
theorem SP.unwish {D : Ends} {f : Flow} {s' : Shared} (h : SP (X.wish E) pins D f s') : SP X pins D f s' := by
 cases f with
 | next => obtain ⟨σ', H', I, q⟩ := h; exact ⟨σ', H', I.unwish, q⟩
 | brk => obtain ⟨σ', H', I, q⟩ := h; exact ⟨σ', H', I.unwish, q⟩
 | cont => obtain ⟨σ', H', I, q⟩ := h; exact ⟨σ', H', I.unwish, q⟩
 | ret u => obtain ⟨v, σ', H', I, r, q⟩ := h; exact ⟨v, σ', H', I.unwish, r, q⟩
theorem PSs.nox {st : List Stmt} {t : TS} (h : PSs X.nox st t) : PSs X st t := fun pins s σ H D I hw =>
 wpAny_mono (h pins s σ H D (I.wish _) hw) (fun _ _ q => q.unwish) fun _ _ z => False.elim z
end
section
variable {X : Cx} {st : Stmt} {rest : List Stmt} {t u : TS} {e : Expr} {te : TE} {pos : Pos}
def tNext : TS := fun D σ H => D.nx σ H
def tSeq (t u : TS) : TS := fun D σ H => t { D with nx := u D } σ H
theorem pss_nil : PSs X [] tNext := fun _ _ σ H _ I h => wpAny_execs_nil ⟨σ, H, I, h⟩
theorem pss_cons (h1 : PS X st t) (h2 : PSs X rest u) : PSs X (st :: rest) (tSeq t u) := by
 intro pins s σ H D I h
 refine wpAny_execs_cons (thn (h1 pins s σ H { D with nx := u D } I h) fun f s1 q => ?_)
 cases f with
 | next =>
  obtain ⟨σ', H', I', q⟩ := q
  exact h2 pins s1 σ' H' D I' q
 | ret v => exact q
 | brk => exact q
 | cont => exact q
theorem pss_one (h1 : PS X st t) : PSs X [st] t := by
 intro pins s σ H D I h
 refine wpAny_execs_cons (thn (h1 pins s σ H D I h) fun f s1 q => ?_)
 cases f with
 | next => exact wpAny_execs_nil q
 | ret v => exact q
 | brk => exact q
 | cont => exact q
theorem Inv.quiet {pins : List (Addr × Obj)} {σ : St} {H : Hp} {s : Shared} (I : Inv X pins σ H s) : interactive X.env = false := by simp [interactive, I.ok.kind]
def tDrop (te : TE) : TS := fun D σ H => te σ H fun _ H1 => D.nx σ H1
theorem ps_expr (he : PE X e te) (hs : swapsWith e none pos.line X.env = pure false := by rfl) : PS X (.Expr e pos) (tDrop te) := by
 intro pins s σ H D I h
 exact wpAny_Expr_any (thn (he pins s σ H _ I h) fun v s1 ⟨x, H1, I1, r1, q1⟩ => ⟨σ, H1, I1, q1⟩) I.quiet hs
def tRet (te : TE) : TS := fun D σ H => te σ H D.rt
theorem ps_ret (he : PE X e te) : PS X (.Return (some e) pos) (tRet te) := by
 intro pins s σ H D I h
 exact wpAny_Return_some (thn (he pins s σ H _ I h) fun v s1 ⟨x, H1, I1, r1, q1⟩ => ⟨x, σ, H1, I1, r1, q1⟩)
def tIfS (c : TT) (t u : TS) : TS := fun D σ H => c σ H fun b H1 => if b = true then t D σ H1 else u D σ H1
theorem ps_if {c : Expr} {a b : List Stmt} {tc : TT} (hc : PT X c tc) (ha : PSs X a t) (hb : PSs X b u) : PS X (.If c a b pos) (tIfS tc t u) := by
 intro pins s σ H D I h
 refine wpAny_If (thn (hc pins s σ H _ I h) fun d s1 ⟨H1, I1, q1⟩ => ?_)
 cases d with
 | true => exact ha pins s1 σ H1 D I1 q1
 | false => exact hb pins s1 σ H1 D I1 q1
end
abbrev TG := V -> St -> Hp -> (St -> Hp -> Prop) -> Prop
abbrev TGs := List V -> St -> Hp -> (St -> Hp -> Prop) -> Prop
def PG (X : Cx) (target : Expr) (t : TG) : Prop :=
 ∀ (pins : List (Addr × Obj)) (s : Shared) (σ : St) (H : Hp) (v : V) (u : Value) (Q : St -> Hp -> Prop), Inv X pins σ H s -> RelV v u -> t v σ H Q ->
  wpAny (model X.prog X.w) X.A (assign target X.env u) (fun _ s' => ∃ σ' H', Inv X pins σ' H' s' /\ Q σ' H') X.xe s
def PGs (X : Cx) (ts : List Expr) (t : TGs) : Prop :=
 ∀ (pins : List (Addr × Obj)) (s : Shared) (σ : St) (H : Hp) (vs : List V) (us : List Value) (Q : St -> Hp -> Prop), Inv X pins σ H s -> Vals vs us -> t vs σ H Q ->
  wpAny (model X.prog X.w) X.A (assignInOrder ((assignEach ts X.env).map (·.2)) us) (fun _ s' => ∃ σ' H', Inv X pins σ' H' s' /\ Q σ' H') X.xe s
section
variable {X : Cx} {pos : Pos}
def gName (i : Nat) : TG := fun v σ H Q => Q (σ.set i (some v)) H
theorem pg_name {i : Nat} {x : Str} (hN : X.N.Nodup) (hi : X.N[i]? = some x) (hx : Loc X.env.scope x) (hf : X.fn x = true \/ X.env.scope.names.lookup x = some .local := by first | exact .inl rfl | exact .inr rfl | assumption) : PG X (.Name x pos) (gName i) := by
 intro pins s σ H v u Q I r h
 exact wpAny_assign_Name (store_ok I hN hi hx r (fun s' I' => ⟨_, H, I', h⟩) hf)
def gNil : TGs := fun vs σ H Q => vs = [] /\ Q σ H
def gCons (t : TG) (u : TGs) : TGs := fun vs σ H Q => ∃ v r, vs = v :: r /\ t v σ H fun σ' H' => u r σ' H' Q
theorem pgs_nil : PGs X [] gNil := by
 intro pins s σ H vs us Q I r h
 obtain ⟨e, h⟩ := h
 subst e
 cases r
 exact assignInOrder_nil ⟨σ, H, I, h⟩
theorem pgs_cons {e : Expr} {es : List Expr} {t : TG} {u : TGs} (h1 : PG X e t) (h2 : PGs X es u)
  (hs : (assignEach (e :: es) X.env).map (·.2) = assign e X.env :: (assignEach es X.env).map (·.2) := by rfl) : PGs X (e :: es) (gCons t u) := by
 intro pins s σ H vs us Q I r h
 obtain ⟨v, vr, e1, h⟩ := h
 subst e1
 cases r with
 | cons r rr =>
  rw [hs]
  refine assignInOrder_cons (thn (h1 pins s σ H _ _ _ I r h) fun _ s1 ⟨σ1, H1, I1, q1⟩ => ?_)
  exact h2 pins s1 σ1 H1 _ _ Q I1 rr q1
def gTup (K : PySem.W.Frag) (n : Nat) (t : TGs) : TG := fun v σ H Q => ∃ a xs, v = .ref a /\ SqT K H a xs /\ xs.length = n /\ t xs σ H Q
theorem pg_tup {es : List Expr} {k : Nat} {t : TGs} {n : Nat} (hc : X.calm = true) (h : PGs X es t)
  (hn : (assignEach es X.env).length = n := by rfl) (hst : (assignEach es X.env).findIdx? (·.1) = none := by rfl) : PG X (.Tuple es k pos) (gTup X.K n t) := by
 intro pins s σ H v u Q I r hw
 obtain ⟨a, xs, e1, hq, hl, hw⟩ := hw
 subst e1
 cases r
 obtain ⟨its, rv, ht, hz⟩ := I.tuple hq
 refine assign_Tuple_tuple (I.ok.hd hc) ht (by simp [hn, <- hl, rv.length]) hst fun h' hx => ?_
 have I1 : Inv X pins σ H { s with heap := h' } := I.kept (t' := s.toks) fun b o e => hx b o (Nat.ne_of_lt (Heap.lt_size e)) e
 exact h pins _ σ H xs _ Q I1 (by simpa using rv) hw
def tAsg (te : TE) (g : TG) : TS := fun D σ H => te σ H fun x H1 => g x σ H1 D.nx
theorem ps_set {i : Nat} {x : Str} {e : Expr} {te : TE} {pos' : Pos} (hN : X.N.Nodup) (hi : X.N[i]? = some x) (hx : Loc X.env.scope x) (he : PE X e te) (hs : swapsWith e (some (.Name x pos')) pos.line X.env = pure false := by rfl) (hf : X.fn x = true \/ X.env.scope.names.lookup x = some .local := by first | exact .inl rfl | exact .inr rfl | assumption) :
  PS X (.Assign [.Name x pos'] e pos) (tAsg te (gName i)) := by
 intro pins s σ H D I h
 refine wpAny_Assign_Name (thn (he pins s σ H _ I h) fun v s1 ⟨y, H1, I1, r1, q1⟩ => ?_) hs
 exact store_ok I1 hN hi hx r1 (fun s2 I2 => ⟨_, H1, I2, q1⟩) hf
def tPar (i j : Nat) (ta : TA) : TS := fun D σ H => ta σ H fun vs H1 => ∃ v w, vs = [v, w] /\ D.nx ((σ.set i (some v)).set j (some w)) H1
theorem ps_par {i j : Nat} {x y : Str} {a b : Expr} {ta : TA} {px py pt : Pos} {kt k2 pt2} (hc : X.calm = true) (hN : X.N.Nodup) (hi : X.N[i]? = some x) (hj : X.N[j]? = some y) (hij : i ≠ j)
  (hx : X.env.scope.names.lookup x = some .local) (hy : X.env.scope.names.lookup y = some .local) (ha : PA X [a, b] ta)
  (hw : swappedStores [.Tuple [.Name x px, .Name y py] kt pt] (.Tuple [a, b] k2 pt2) X.env = pure (some [x, y]))
  (hs : swapsWithSole [.Tuple [.Name x px, .Name y py] kt pt] (.Tuple [a, b] k2 pt2) pos.line X.env = pure false := by rfl) :
  PS X (.Assign [.Tuple [.Name x px, .Name y py] kt pt] (.Tuple [a, b] k2 pt2) pos) (tPar i j ta) := by
 intro pins s σ H D I h
 rw [exec_Assign_arm]
 refine wpAny_bind (wpAny_standAt ?_)
 rw [hs]
 refine wpAny_bind (wpAny_pure ?_)
 rw [if_neg (by decide)]
 refine wpAny_bind (Tuple_ (thn (ha _ pins s σ H _ I h) fun us s1 ⟨vs, H1, I1, r1, q1⟩ => ?_))
 obtain ⟨v, w, e1, q1⟩ := q1
 subst e1
 obtain ⟨u1, u2, rfl, rv, rw'⟩ : ∃ u1 u2, us = [u1, u2] /\ RelV v u1 /\ RelV w u2 := by
  cases r1 with
  | cons p q =>
   cases q with
   | cons p' q' =>
    cases q'
    exact ⟨_, _, rfl, p, p'⟩
 refine wpAny_newObj_type ?_ (by show 2 <= sizeLine; decide)
 have I2 : Inv X pins σ H1 { s1 with heap := s1.heap.push { cls := .type "tuple", data := .seq [u1, u2].toArray } } := I1.kept (t' := s1.toks) fun b o e => Heap.get?_push_of_some _ e
 rw [hw]
 refine wpAny_bind (wpAny_pure ?_)
 show wpAny (model X.prog X.w) X.A (do rule "assign.swapped-stores"; let items <- unpackItems (.ref s1.heap.objs.size) 2 none; assignInOrder [fun v => bindName X.env y v, fun v => bindName X.env x v] items.reverse; pure Flow.next) _ _ _
 refine wpAny_bind (wpAny_rule (wpAny_bind (unpackItems_tuple (items := #[u1, u2]) (I.ok.hd hc) (IsTup.new s1.heap _) fun h' hx' => ?_)))
 have I3 := I2.kept (h' := h') (t' := s1.toks) fun b o e => hx' b o (Nat.ne_of_lt (Heap.lt_size e)) e
 show wpAny _ _ (assignInOrder [fun v => bindName X.env y v, fun v => bindName X.env x v] [u2, u1] >>= fun _ => pure Flow.next) _ _ _
 refine wpAny_bind (assignInOrder_cons (wpAny_bindName (store_ok I3 hN hj (.inl hy) rw' (fun s2 I4 => ?_) (.inr hy))))
 refine assignInOrder_cons (wpAny_bindName (store_ok I4 hN hi (.inl hx) rv (fun s3 I5 => assignInOrder_nil (wpAny_pure ?_)) (.inr hx)))
 rw [List.set_comm _ _ (Ne.symm hij)] at I5
 exact ⟨_, H1, I5, q1⟩
end
section
variable {X : Cx} {pos : Pos}
def tWhile (c : TT) (tb : TS) : TS := fun D σ H => ∃ W : Nat -> St -> Hp -> Prop, (∃ m, W m σ H) /\ ∀ m σ H, W m σ H ->
 c σ H fun b H1 => if b = true then ∃ N : St -> Hp -> Prop, (∀ σ' H', N σ' H' -> ∃ m', m' < m /\ W m' σ' H') /\ tb { D with nx := N, ct := N, bk := D.nx } σ H1 else D.nx σ H1
theorem ps_while {c : Expr} {body : List Stmt} {tc : TT} {tb : TS} (hp : PassesOwn (model X.prog X.w) X.A X.env X.xe) (hc : PT X c tc) (hb : PSs X body tb) : PS X (.While c body [] pos) (tWhile tc tb) := by
 intro pins s σ H D I h
 obtain ⟨W, ⟨m0, w0⟩, turn⟩ := h
 refine wpAny_While (codeAny_whileLoop (fun n s' => ∃ σ' H', Inv X pins σ' H' s' /\ W n σ' H') ?_ m0 ⟨σ, H, I, w0⟩)
 rintro n s1 ⟨σ1, H1, I1, w1⟩
 refine wpAny_passesOwn hp (thn (hc pins s1 σ1 H1 _ I1 (turn n σ1 H1 w1)) fun b s2 ⟨H2, I2, q2⟩ => ?_)
 cases b with
 | true =>
  obtain ⟨N, hN, q2⟩ := q2
  rw [if_pos rfl]
  refine wpAny_passesOwn hp (thn (hb pins s2 σ1 H2 _ I2 q2) fun f s3 q3 => ?_)
  cases f with
  | next =>
   obtain ⟨σ3, H3, I3, n3⟩ := q3
   obtain ⟨m', hm, w3⟩ := hN σ3 H3 n3
   exact ⟨m', hm, σ3, H3, I3, w3⟩
  | cont =>
   obtain ⟨σ3, H3, I3, n3⟩ := q3
   obtain ⟨m', hm, w3⟩ := hN σ3 H3 n3
   exact ⟨m', hm, σ3, H3, I3, w3⟩
  | brk => exact q3
  | ret v => exact q3
 | false =>
  rw [if_neg Bool.false_ne_true]
  exact wpAny_execs_nil ⟨σ1, H2, I2, q2⟩
end
structure It where
 go : Nat -> Hp -> Prop
 yld : Nat -> Hp -> V -> Hp -> Prop
 stop : Nat -> Hp -> Prop
def FpOk (X : Cx) (pins : List (Addr × Obj)) (H : Hp) (b : Addr) : Prop :=
 H b = none /\ b ≠ X.env.locals /\ b ∉ X.fs /\ (b ∈ X.ex \/ X.s₀.heap.objs.size <= b) /\ (∀ x c, X.env.cells.lookup x = some c -> c ≠ b) /\ ∀ p ∈ X.pn ++ pins, p.1 ≠ b
theorem Inv.fpOk {X : Cx} {pins : List (Addr × Obj)} {σ : St} {H H' : Hp} {s : Shared} {b : Addr} (I : Inv X pins σ H s) (hb : s.heap.objs.size <= b) (hn : H' b = none) : FpOk X pins H' b := by
 refine ⟨hn, Nat.ne_of_gt (Nat.lt_of_lt_of_le I.lt hb), I.nofs hb, .inr (Nat.le_trans I.sz hb), fun x c e z => ?_, fun p hp z => ?_⟩
 ·obtain ⟨v, q⟩ := I.cell x c e
  exact absurd (Nat.lt_of_lt_of_le q.lt (by rw [z]; exact hb)) (Nat.lt_irrefl _)
 ·exact absurd (Nat.lt_of_lt_of_le (Heap.lt_size (I.pin p hp).1) (by rw [z]; exact hb)) (Nat.lt_irrefl _)
structure Turn (P : Program) (w : World) (K : PySem.W.Frag) (tg : Expr) (J : It) (fp : List Addr) (it : Addr) (tn : Nat -> Heap -> Prop) : Prop where
 mem : it ∈ fp
 obj : ∀ i h, tn i h -> ∀ b ∈ fp, ∃ o, h.get? b = some o /\ ∀ v, o.data ≠ .cell v
 keep : ∀ i h h', tn i h -> (∀ b ∈ fp, ∀ o, h.get? b = some o -> h'.get? b = some o) -> tn i h'
 item : ∀ (X : Cx), X.prog = P -> X.w = w -> X.K = K -> X.calm = true -> ∀ (i : Nat) (pins : List (Addr × Obj)) (s : Shared) (σ : St) (H : Hp) (E : Value -> Shared -> Prop), Inv X pins σ H s -> (∀ b ∈ fp, FpOk X pins H b) -> tn i s.heap -> J.go i H ->
  wpAny (model P w) X.A (pyNext (.ref it)) (fun r s1 => ∃ u, r = some u /\
   wpAny (model P w) X.A (letOwnedTupleGo tg (.ref it) u) (fun _ s2 => ∃ x H', Inv X pins σ H' s2 /\ RelV x u /\ J.yld i H x H' /\ tn (i + 1) s2.heap /\ ∀ b ∈ fp, H' b = none) E s1) E s
 done : ∀ (X : Cx), X.prog = P -> X.w = w -> X.K = K -> X.calm = true -> ∀ (i : Nat) (pins : List (Addr × Obj)) (s : Shared) (σ : St) (H : Hp) (E : Value -> Shared -> Prop), Inv X pins σ H s -> (∀ b ∈ fp, FpOk X pins H b) -> tn i s.heap -> J.stop i H ->
  wpAny (model P w) X.A (pyNext (.ref it)) (fun r s1 => r = none /\ Inv X pins σ H s1) E s
 self : ∀ (A : Around) (i : Nat) (s : Shared) (Q : Value -> Shared -> Prop) (E : Value -> Shared -> Prop), tn i s.heap -> Q (.ref it) s -> wpAny (model P w) A (pyIter (.ref it)) Q E s
abbrev TI := St -> Hp -> (It -> Hp -> Prop) -> Prop
def PIE (X : Cx) (pins : List (Addr × Obj)) (σ : St) (tg : Expr) (R : It -> Hp -> Prop) (itv : Value) (s2 : Shared) : Prop :=
 ∃ (it : Addr) (fp : List Addr) (tn : Nat -> Heap -> Prop) (J : It) (H' : Hp), itv = .ref it /\ Inv X pins σ H' s2 /\ Turn X.prog X.w X.K tg J fp it tn /\ tn 0 s2.heap /\ (∀ b ∈ fp, FpOk X pins H' b) /\ R J H'
def PI (X : Cx) (tg iter : Expr) (wi : TI) : Prop :=
 ∀ (pins : List (Addr × Obj)) (s : Shared) (σ : St) (H : Hp) (R : It -> Hp -> Prop), Inv X pins σ H s -> wi σ H R ->
  wpAny (model X.prog X.w) X.A (eval iter X.env) (fun v s1 => wpAny (model X.prog X.w) X.A (pyIter v) (PIE X pins σ tg R) X.xe s1) X.xe s
theorem go_of {M : Model} {A : Around} {E : Value -> Shared -> Prop} {s : Shared} {tg : Expr} {it : Addr} {u : Value} {o : Obj} {n : String} {vs : Array Value} {Q : Unit -> Shared -> Prop} (ho : s.heap.get? it = some o) (hc : o.cls = .type n) (hd : o.data = .fields vs)
  (hn : ["enumerate", "zip", "dict_itemiterator", "dict_reverseitemiterator", "odict_iterator", "itertools.zip_longest", "itertools.pairwise"].contains n = false) (hQ : Q () s) : wpAny M A (letOwnedTupleGo tg (.ref it) u) Q E s := by
 unfold letOwnedTupleGo
 cases tg <;> first
  | exact wpAny_pure hQ
  | (cases u <;> first
    | exact wpAny_pure hQ
    | (refine wpAny_bind (wpAny_load ho ?_)
       rw [hc, hd]
       show wpAny M A (if (["enumerate", "zip", "dict_itemiterator", "dict_reverseitemiterator", "odict_iterator", "itertools.zip_longest", "itertools.pairwise"].contains n && vs[0]? == some (rawInt _)) = true then _ else _) Q E s
       rw [if_neg (by intro h; rw [hn, Bool.false_and] at h; cases h)]
       exact wpAny_pure hQ))
def Itl (K : PySem.W.Frag) (a : Addr) : It :=
 ⟨fun i H => ∃ xs x, SqL K H a xs /\ xs[i]? = some x, fun i H x H' => H' = H /\ ∀ xs, SqL K H a xs -> xs[i]? = some x, fun i H => ∃ xs, SqL K H a xs /\ xs.length <= i⟩
def Itt (K : PySem.W.Frag) (a : Addr) : It :=
 ⟨fun i H => ∃ xs x, SqT K H a xs /\ xs[i]? = some x, fun i H x H' => H' = H /\ ∀ xs, SqT K H a xs -> xs[i]? = some x, fun i H => ∃ xs, SqT K H a xs /\ xs.length <= i⟩
def Itr (lo : Int) (n : Nat) : It := ⟨fun i _ => i < n, fun i H x H' => H' = H /\ x = .int (lo + i), fun i _ => n <= i⟩
theorem turn_list {P : Program} {w : World} {K : PySem.W.Frag} {tg : Expr} (a it : Addr) : Turn P w K tg (Itl K a) [it] it (fun i h => h.IsListIter it a i) where
 mem := by simp
 obj := fun i h st b hb => by
  have e : b = it := by simpa using hb
  subst e
  obtain ⟨o, e, c, d⟩ := st
  exact ⟨o, e, fun v z => by rw [d] at z; cases z⟩
 keep := fun i h h' st k => st.at fun o e => k it (by simp) o e
 item := by
  intro X hP hw hK hc i pins s σ H E I hf st hg
  subst hP hw hK
  obtain ⟨xs, x, hq, hx⟩ := hg
  obtain ⟨its, rv, p, hz⟩ := I.list hq
  obtain ⟨u, hu, ru⟩ := rv.get hx
  obtain ⟨f0, f1, f2, f3, f4, f5⟩ := hf it (by simp)
  refine wpAny_pyNext_list_item st p.isList (x := u) (by simpa using hu) fun h' st' sb => ?_
  have I1 : Inv X pins σ H { s with heap := h' } := I.turned (t' := s.toks) (fun b o hb e => (sb.2 b hb).trans e) f0 f1 f3 f4 f5
  obtain ⟨o, e, c, d⟩ := id st'
  exact ⟨u, rfl, go_of (s := { s with heap := h' }) e c d (by decide) ⟨x, H, I1, ru, ⟨rfl, fun ys hy => by rw [I.list_inj hy hq]; exact hx⟩, st', fun b hb => (hf b hb).1⟩⟩
 done := by
  intro X hP hw hK hc i pins s σ H E I hf st hg
  subst hP hw hK
  obtain ⟨xs, hq, hx⟩ := hg
  obtain ⟨its, rv, p, hz⟩ := I.list hq
  obtain ⟨f0, f1, f2, f3, f4, f5⟩ := hf it (by simp)
  have hl := rv.length
  exact wpAny_pyNext_list_end (I.ok.hd hc) st p.isList (by simp; omega) fun h' eb => ⟨rfl, I.turned (t' := s.toks) (fun b o hb e => eb b o hb e) f0 f1 f3 f4 f5⟩
 self := fun _ _ _ _ _ st h => wpAny_pyIter_listiter st h
theorem turn_tuple {P : Program} {w : World} {K : PySem.W.Frag} {tg : Expr} (a it : Addr) : Turn P w K tg (Itt K a) [it] it (fun i h => h.IsTupleIter it a i) where
 mem := by simp
 obj := fun i h st b hb => by
  have e : b = it := by simpa using hb
  subst e
  obtain ⟨o, e, c, d⟩ := st
  exact ⟨o, e, fun v z => by rw [d] at z; cases z⟩
 keep := fun i h h' st k => st.at fun o e => k it (by simp) o e
 item := by
  intro X hP hw hK hc i pins s σ H E I hf st hg
  subst hP hw hK
  obtain ⟨xs, x, hq, hx⟩ := hg
  obtain ⟨its, rv, p, hz⟩ := I.tuple hq
  obtain ⟨u, hu, ru⟩ := rv.get hx
  obtain ⟨f0, f1, f2, f3, f4, f5⟩ := hf it (by simp)
  refine wpAny_pyNext_tuple_item st (show s.heap.IsTuple a its.toArray from p) (x := u) (by simpa using hu) fun h' st' sb => ?_
  have I1 : Inv X pins σ H { s with heap := h' } := I.turned (t' := s.toks) (fun b o hb e => (sb.2 b hb).trans e) f0 f1 f3 f4 f5
  obtain ⟨o, e, c, d⟩ := id st'
  exact ⟨u, rfl, go_of (s := { s with heap := h' }) e c d (by decide) ⟨x, H, I1, ru, ⟨rfl, fun ys hy => by rw [I.tuple_inj hy hq]; exact hx⟩, st', fun b hb => (hf b hb).1⟩⟩
 done := by
  intro X hP hw hK hc i pins s σ H E I hf st hg
  subst hP hw hK
  obtain ⟨xs, hq, hx⟩ := hg
  obtain ⟨its, rv, p, hz⟩ := I.tuple hq
  obtain ⟨f0, f1, f2, f3, f4, f5⟩ := hf it (by simp)
  have hl := rv.length
  exact wpAny_pyNext_tuple_end (I.ok.hd hc) st (show s.heap.IsTuple a its.toArray from p) (by simp; omega) fun h' eb => ⟨rfl, I.turned (t' := s.toks) (fun b o hb e => eb b o hb e) f0 f1 f3 f4 f5⟩
 self := fun _ _ _ _ _ st h => wpAny_pyIter_tupleiter st h
theorem turn_range {P : Program} {w : World} {K : PySem.W.Frag} {tg : Expr} (it : Addr) (lo : Int) (n : Nat) : Turn P w K tg (Itr lo n) [it] it (fun i h => IsRangeIter h it (lo + (i : Nat) * 1) ((n : Int) - (i : Nat)) 1) where
 mem := by simp
 obj := fun i h st b hb => by
  have e : b = it := by simpa using hb
  subst e
  exact ⟨_, st, fun v z => by
   have z' : Data.fields _ = Data.cell v := z
   cases z'⟩
 keep := fun i h h' st k => k it (by simp) _ st
 item := by
  intro X hP hw hK hc i pins s σ H E I hf st hg
  subst hP hw hK
  obtain ⟨f0, f1, f2, f3, f4, f5⟩ := hf it (by simp)
  have W := Walks.range (prog := X.prog) (w := X.w) (I.ok.hd hc) it lo 1 n
  refine W.item i s _ _ hg st fun v h' tk hv st' kk => ?_
  obtain ⟨t, rfl⟩ := hv
  have I1 : Inv X pins σ H { s with heap := h', toks := tk } := I.turned (fun b o hb e => kk b o (by simpa using hb) e) f0 f1 f3 f4 f5
  refine ⟨_, rfl, go_of (s := { s with heap := h', toks := tk }) (n := "range_iterator") st' rfl rfl (by decide) ⟨.int (lo + i), H, I1, ⟨t, ?_⟩, ⟨rfl, rfl⟩, st', fun b hb => (hf b hb).1⟩⟩
  rw [Int.mul_one]
 done := by
  intro X hP hw hK hc i pins s σ H E I hf st hg
  subst hP hw hK
  obtain ⟨f0, f1, f2, f3, f4, f5⟩ := hf it (by simp)
  exact wpAny_pyNext_range_end (I.ok.hd hc) st (by have : n <= i := hg; omega) fun h' eb => ⟨rfl, I.turned (t' := s.toks) (fun b o hb e => eb b o hb e) f0 f1 f3 f4 f5⟩
 self := fun _ _ _ _ _ st h => wpAny_pyIter_rangeiter st h
end L2
namespace L2
open PySem PySem.Spec PyProof.Rows
section
variable {X : Cx} {tg : Expr}
theorem range_it {pins : List (Addr × Obj)} {σ : St} {H : Hp} {s : Shared} {R : It -> Hp -> Prop} {E : Value -> Shared -> Prop} {lo hi : Int} {t u v : Tok} {tk : Nat} (I : Inv X pins σ H s) (h1 : -(2 ^ 62) <= lo) (h2 : lo < 2 ^ 62) (h3 : -(2 ^ 62) <= hi) (h4 : hi < 2 ^ 62)
  (q : R (Itr lo (hi - lo).toNat) H) : wpAny (model X.prog X.w) X.A (pyIter (.ref s.heap.objs.size)) (PIE X pins σ tg R) E { s with heap := s.heap.push { cls := .type "range", data := .fields #[.int lo t, .int hi u, .int 1 v] }, toks := tk } := by
 refine wpAny_pyIter_range (IsRange.new ..) (small_one h1 h2 h3 h4) ?_
 have I1 : Inv X pins σ H { s with heap := s.heap.push { cls := .type "range", data := .fields #[.int lo t, .int hi u, .int 1 v] }, toks := tk } := I.kept fun b o e => Heap.get?_push_of_some _ e
 refine ⟨(s.heap.push { cls := .type "range", data := .fields #[.int lo t, .int hi u, .int 1 v] }).objs.size, [(s.heap.push { cls := .type "range", data := .fields #[.int lo t, .int hi u, .int 1 v] }).objs.size], _, _, H, rfl,
  I1.kept (t' := tk) fun b o e => Heap.get?_push_of_some _ e, turn_range _ lo (hi - lo).toNat, ?_, fun b hb => ?_, q⟩
 ·have e1 : lo + ((0 : Nat) : Int) * 1 = lo := by simp
  have e2 : (((hi - lo).toNat : Nat) : Int) - ((0 : Nat) : Int) = Builtin.Range.rangeSize lo hi 1 := by rw [rangeSize_one]; split <;> omega
  show IsRangeIter _ _ (lo + ((0 : Nat) : Int) * 1) ((((hi - lo).toNat : Nat) : Int) - ((0 : Nat) : Int)) 1
  rw [e1, e2]
  exact Heap.get?_push_size _ rfl
 ·have e : b = (s.heap.push { cls := .type "range", data := .fields #[.int lo t, .int hi u, .int 1 v] }).objs.size := by simpa using hb
  subst e
  exact I1.fpOk (Nat.le_refl _) (I1.hok.fresh (Nat.le_refl _))
def iRng1 (ta : TA) : TI := fun σ H R => ta σ H fun vs H1 => ∃ j : Int, vs = [.int j] /\ -(2 ^ 62) <= j /\ j < 2 ^ 62 /\ R (Itr 0 j.toNat) H1
theorem pi_range1 {a : Expr} {ta : TA} {p pos : Pos} (hg : Gl X "range") (hm : X.mg "range" = none) (ha : PA X [a] ta) (hs : starEach [a] X.env = [(false, eval a X.env)] := by rfl) : PI X tg (.Call (.Name "range" p) [a] [] pos) (iRng1 ta) := by
 intro pins s σ H R I h
 refine Call_ (ld_blt I hg hm boot_range (PyProof.Rows.callWith_type1 (thn (ha pos pins s σ H _ I h) fun us s1 ⟨vs, H1, I1, r1, q1⟩ => ?_) hs rfl))
 obtain ⟨j, e, q1, q2, q⟩ := q1
 subst e
 cases r1 with
 | cons r rr =>
  cases rr
  obtain ⟨t, rfl⟩ := r
  exact call_range_1 (range_it I1 (by omega) (by omega) q1 q2 (by simpa using q))
def tFor (wi : TI) (g : TG) (tb : TS) : TS := fun D σ H => wi σ H fun J H1 => ∃ W : Nat -> Nat -> St -> Hp -> Prop, (∃ m, W 0 m σ H1) /\ ∀ i m σ H, W i m σ H ->
 (J.stop i H /\ D.nx σ H) \/ (J.go i H /\ ∃ N : St -> Hp -> Prop, (∀ σ' H', N σ' H' -> ∃ m', m' < m /\ W (i + 1) m' σ' H') /\ ∀ x H', J.yld i H x H' -> g x σ H' fun σ2 H2 => tb { D with nx := N, ct := N, bk := D.nx } σ2 H2)
def pinsAt (fp : List Addr) (h : Heap) : List (Addr × Obj) := fp.filterMap fun b => (h.get? b).map fun o => (b, o)
theorem mem_pinsAt {fp : List Addr} {h : Heap} {b : Addr} {o : Obj} (hb : b ∈ fp) (e : h.get? b = some o) : (b, o) ∈ pinsAt fp h := List.mem_filterMap.mpr ⟨b, hb, by rw [e]; rfl⟩
theorem of_pinsAt {fp : List Addr} {h : Heap} {p : Addr × Obj} (hp : p ∈ pinsAt fp h) : p.1 ∈ fp /\ h.get? p.1 = some p.2 := by
 obtain ⟨b, hb, e⟩ := List.mem_filterMap.mp hp
 cases q : h.get? b with
 | none => rw [q] at e; cases e
 | some o =>
  rw [q] at e
  have e' : (b, o) = p := Option.some.inj e
  subst e'
  exact ⟨hb, q⟩
theorem Inv.pinned {pins : List (Addr × Obj)} {σ : St} {H : Hp} {s : Shared} {fp : List Addr} (I : Inv X pins σ H s) (hf : ∀ b ∈ fp, FpOk X pins H b) (ho : ∀ b ∈ fp, ∃ o, s.heap.get? b = some o /\ ∀ v, o.data ≠ .cell v) : Inv X (pins ++ pinsAt fp s.heap) σ H s :=
 I.pins_of fun p hp => (List.mem_append.mp hp).elim (fun z => I.pin p (List.mem_append_right _ z)) fun z => by
  obtain ⟨hb, e⟩ := of_pinsAt z
  obtain ⟨f0, f1, f2, _⟩ := hf p.1 hb
  obtain ⟨o, e', d⟩ := ho p.1 hb
  rw [e] at e'; cases e'
  exact ⟨e, f0, f1, f2, d⟩
theorem Inv.unpinned {pins pl : List (Addr × Obj)} {σ : St} {H : Hp} {s : Shared} (I : Inv X (pins ++ pl) σ H s) : Inv X pins σ H s := I.pins_of fun p hp => I.pin p (List.mem_append_right _ (List.mem_append_left _ hp))
theorem ps_for {iter : Expr} {body : List Stmt} {wi : TI} {g : TG} {tb : TS} {pos : Pos} (hp : PassesOwn (model X.prog X.w) X.A X.env X.xe) (hc : X.calm = true) (hi : PI X tg iter wi) (hg : PG X tg g) (hb : PSs X body tb)
  (hs : ∀ x, foldedSetIterable iter X.env x = pure x := by intro _; rfl) : PS X (.For tg iter body [] pos) (tFor wi g tb) := by
 intro pins s σ H D I h
 refine wpAny_For (thn (hi pins s σ H _ I h) fun v s1 h1 => thn h1 fun itv s2 h2 => ?_) hs
 obtain ⟨it, fp, tn, J, H2, e, I2, T, st2, f2, W, ⟨m0, w0⟩, turn⟩ := h2
 subst e
 have stat : ∀ {H' : Hp}, (∀ b ∈ fp, H' b = none) -> ∀ b ∈ fp, FpOk X pins H' b := fun hn b hb => ⟨hn b hb, (f2 b hb).2⟩
 refine codeAny_forLoop_any (fun n s' => ∃ i σ' H', Inv X pins σ' H' s' /\ tn i s'.heap /\ (∀ b ∈ fp, H' b = none) /\ W i n σ' H') ?_ m0 ⟨0, σ, H2, I2, st2, fun b hb => (f2 b hb).1, w0⟩
 rintro n s3 ⟨i, σ3, H3, I3, st3, fr3, w3⟩
 rcases turn i n σ3 H3 w3 with ⟨stop, qn⟩ | ⟨go, N, hN, step⟩
 ·refine wpAny_passesOwn hp (thn (T.done X rfl rfl rfl hc i pins s3 σ3 H3 X.xe I3 (stat fr3) st3 stop) fun r s4 ⟨hr, I4⟩ => ?_)
  subst hr
  exact wpAny_execs_nil ⟨σ3, H3, I4, qn⟩
 ·refine wpAny_passesOwn hp (thn (T.item X rfl rfl rfl hc i pins s3 σ3 H3 X.xe I3 (stat fr3) st3 go) fun r s4 ⟨u, hr, h4⟩ => ?_)
  subst hr
  refine wpAny_passesOwn hp (thn h4 fun _ s5 ⟨x, H5, I5, r5, y5, st5, fr5⟩ => ?_)
  have I5' := I5.pinned (stat fr5) (T.obj _ _ st5)
  refine wpAny_passesOwn hp (thn (hg _ s5 σ3 H5 x u _ I5' r5 (step x H5 y5)) fun _ s6 ⟨σ6, H6, I6, q6⟩ => ?_)
  refine wpAny_passesOwn hp (thn (hb _ s6 σ6 H6 _ I6 q6) fun f s7 q7 => ?_)
  have again : ∀ {σ7 : St} {H7 : Hp}, Inv X (pins ++ pinsAt fp s5.heap) σ7 H7 s7 -> N σ7 H7 -> ∃ m, m < n /\ ∃ i σ' H', Inv X pins σ' H' s7 /\ tn i s7.heap /\ (∀ b ∈ fp, H' b = none) /\ W i m σ' H' := fun {σ7 H7} I7 n7 => by
   obtain ⟨m', hm, w7⟩ := hN σ7 H7 n7
   refine ⟨m', hm, i + 1, σ7, H7, I7.unpinned, T.keep _ _ _ st5 fun b hb o e => (I7.pin (b, o) (List.mem_append_right _ (List.mem_append_right _ (mem_pinsAt hb e)))).1, fun b hb => ?_, w7⟩
   obtain ⟨o, e, d⟩ := T.obj _ _ st5 b hb
   exact (I7.pin (b, o) (List.mem_append_right _ (List.mem_append_right _ (mem_pinsAt hb e)))).2.1
  cases f with
  | next => obtain ⟨σ7, H7, I7, n7⟩ := q7; exact again I7 n7
  | cont => obtain ⟨σ7, H7, I7, n7⟩ := q7; exact again I7 n7
  | brk => obtain ⟨σ7, H7, I7, q7⟩ := q7; exact ⟨σ7, H7, I7.unpinned, q7⟩
  | ret v => obtain ⟨x7, σ7, H7, I7, r7, q7⟩ := q7; exact ⟨x7, σ7, H7, I7.unpinned, r7, q7⟩
end
end L2
namespace L2
open PySem PySem.Spec PyProof.Rows
abbrev R2 := V -> V -> Hp -> VK -> Prop
def OpR (X : Cx) (f : Value -> Value -> Sem Value) (r : R2) : Prop :=
 ∀ (pins : List (Addr × Obj)) (s : Shared) (σ : St) (H : Hp) (x y : V) (v u : Value) (Q : VK), Inv X pins σ H s -> RelV x v -> RelV y u -> r x y H Q ->
  wpAny (model X.prog X.w) X.A (f v u) (EP X pins σ Q) X.xe s
def UnR (X : Cx) (f : Value -> Sem Value) (r : V -> Hp -> VK -> Prop) : Prop :=
 ∀ (pins : List (Addr × Obj)) (s : Shared) (σ : St) (H : Hp) (x : V) (v : Value) (Q : VK), Inv X pins σ H s -> RelV x v -> r x H Q ->
  wpAny (model X.prog X.w) X.A (f v) (EP X pins σ Q) X.xe s
def CallR (X : Cx) (f : Value) (r : List V -> Hp -> VK -> Prop) : Prop :=
 ∀ (pins : List (Addr × Obj)) (s : Shared) (σ : St) (H : Hp) (xs : List V) (us : List Value) (Q : VK), Inv X pins σ H s -> Vals xs us -> r xs H Q ->
  wpAny (model X.prog X.w) X.A (call f us) (EP X pins σ Q) X.xe s
def tOp (r : R2) (ta tb : TE) : TE := fun σ H Q => ta σ H fun x H1 => tb σ H1 fun y H2 => r x y H2 Q
def tUn (r : V -> Hp -> VK -> Prop) (ta : TE) : TE := fun σ H Q => ta σ H fun x H1 => r x H1 Q
def rI (C : Int -> Int -> Prop) (g : Int -> Int -> V) : R2 := fun x y H Q => ∃ i j, x = .int i /\ y = .int j /\ C i j /\ Q (g i j) H
def rI0 (g : Int -> Int -> V) : R2 := fun x y H Q => ∃ i j, x = .int i /\ y = .int j /\ Q (g i j) H
def rU (g : Int -> V) : V -> Hp -> VK -> Prop := fun x H Q => ∃ i, x = .int i /\ Q (g i) H
section
variable {X : Cx} {a b c : Expr} {ta tb tc : TE} {pos : Pos}
theorem binT (ha : PE X a ta) (hb : PE X b tb) {pins : List (Addr × Obj)} {s : Shared} {σ : St} {H : Hp} {R : V -> V -> Hp -> Prop} (I : Inv X pins σ H s)
  (h : ta σ H fun x H1 => tb σ H1 fun y H2 => R x y H2) {Q : Value -> Shared -> Prop} {f : Value -> Value -> Sem Value}
  (hf : ∀ v u s2 x y H2, Inv X pins σ H2 s2 -> RelV x v -> RelV y u -> R x y H2 -> wpAny (model X.prog X.w) X.A (f v u) Q X.xe s2) :
  wpAny (model X.prog X.w) X.A (eval a X.env) (fun v s₁ => wpAny (model X.prog X.w) X.A (eval b X.env) (fun u s₂ => wpAny (model X.prog X.w) X.A (f v u) Q X.xe s₂) X.xe s₁) X.xe s := by
 refine thn (ha pins s σ H _ I h) fun v s1 ⟨x, H1, I1, r1, q1⟩ => ?_
 refine thn (hb pins s1 σ H1 _ I1 q1) fun u s2 ⟨y, H2, I2, r2, q2⟩ => ?_
 exact hf v u s2 x y H2 I2 r1 r2 q2
theorem pe_op {op : Operator} {r : R2} (ho : OpR X (binaryOp op) r) (ha : PE X a ta) (hb : PE X b tb) : PE X (.BinOp a op b pos) (tOp r ta tb) := by
 intro pins s σ H Q I h
 exact wpAny_BinOp (binT ha hb I h fun v u s2 x y H2 I2 rx ry q => ho pins s2 σ H2 x y v u Q I2 rx ry q)
theorem pe_un {op : UnaryOp} {r : V -> Hp -> VK -> Prop} (ho : UnR X (unaryOp op) r) (ha : PE X a ta) : PE X (.UnaryOp op a pos) (tUn r ta) := by
 intro pins s σ H Q I h
 exact UnaryOp_ (thn (ha pins s σ H _ I h) fun v s1 ⟨x, H1, I1, r1, q1⟩ => ho pins s1 σ H1 x v Q I1 r1 q1)
theorem opI {f : Value -> Value -> Sem Value} {C : Int -> Int -> Prop} {g : Int -> Int -> Int}
  (rule : ∀ (i j : Int) (t u : Tok) (s : Shared) (Q : Value -> Shared -> Prop) (E : Value -> Shared -> Prop), C i j -> Q (.int (g i j) s.toks) { s with toks := s.toks + 1 } -> wpAny (model X.prog X.w) X.A (f (.int i t) (.int j u)) Q E s) :
  OpR X f (rI C fun i j => .int (g i j)) := by
 intro pins s σ H x y v u Q I rx ry h
 obtain ⟨i, j, rfl, rfl, hc, q⟩ := h
 obtain ⟨t, rfl⟩ := rx
 obtain ⟨t', rfl⟩ := ry
 exact rule i j t t' s _ _ hc ⟨.int (g i j), H, I.tok _, ⟨_, rfl⟩, q⟩
theorem opI0 {f : Value -> Value -> Sem Value} {g : Int -> Int -> Int}
  (rule : ∀ (i j : Int) (t u : Tok) (s : Shared) (Q : Value -> Shared -> Prop) (E : Value -> Shared -> Prop), Q (.int (g i j) s.toks) { s with toks := s.toks + 1 } -> wpAny (model X.prog X.w) X.A (f (.int i t) (.int j u)) Q E s) :
  OpR X f (rI0 fun i j => .int (g i j)) := by
 intro pins s σ H x y v u Q I rx ry h
 obtain ⟨i, j, rfl, rfl, q⟩ := h
 obtain ⟨t, rfl⟩ := rx
 obtain ⟨t', rfl⟩ := ry
 exact rule i j t t' s _ _ ⟨.int (g i j), H, I.tok _, ⟨_, rfl⟩, q⟩
theorem opB0 {f : Value -> Value -> Sem Value} {g : Int -> Int -> Bool}
  (rule : ∀ (i j : Int) (t u : Tok) (s : Shared) (Q : Value -> Shared -> Prop) (E : Value -> Shared -> Prop), Q (.bool (g i j)) s -> wpAny (model X.prog X.w) X.A (f (.int i t) (.int j u)) Q E s) :
  OpR X f (rI0 fun i j => .bl (g i j)) := by
 intro pins s σ H x y v u Q I rx ry h
 obtain ⟨i, j, rfl, rfl, q⟩ := h
 obtain ⟨t, rfl⟩ := rx
 obtain ⟨t', rfl⟩ := ry
 exact rule i j t t' s _ _ ⟨.bl (g i j), H, I, rfl, q⟩
def CPow (i j : Int) : Prop := 0 <= j /\ j <= 1000000 /\ i.natAbs < 2 ^ 64
theorem op_add : OpR X (binaryOp .Add) (rI0 fun i j => .int (i + j)) := opI0 fun _ _ _ _ _ _ _ q => add_int q
theorem op_sub : OpR X (binaryOp .Sub) (rI0 fun i j => .int (i - j)) := opI0 fun _ _ _ _ _ _ _ q => sub_int q
theorem op_modN : OpR X (binaryOp .Mod) (rI (fun _ j => j ≠ 0) fun i j => .int (i.fmod j)) := opI fun _ _ _ _ _ _ _ hc q => mod_int' hc q
theorem op_pow : OpR X (binaryOp .Pow) (rI CPow fun i j => .int (i ^ j.toNat)) := opI fun _ _ _ _ _ _ _ hc q => pow_int_small hc.1 hc.2.1 hc.2.2 q
theorem unI {f : Value -> Sem Value} {g : Int -> Int}
  (rule : ∀ (i : Int) (t : Tok) (s : Shared) (Q : Value -> Shared -> Prop) (E : Value -> Shared -> Prop), Q (.int (g i) s.toks) { s with toks := s.toks + 1 } -> wpAny (model X.prog X.w) X.A (f (.int i t)) Q E s) :
  UnR X f (rU fun i => .int (g i)) := by
 intro pins s σ H x v Q I rx h
 obtain ⟨i, rfl, q⟩ := h
 obtain ⟨t, rfl⟩ := rx
 exact rule i t s _ _ ⟨.int (g i), H, I.tok _, ⟨_, rfl⟩, q⟩
theorem un_neg : UnR X (unaryOp .USub) (rU fun i => .int (-i)) := unI fun _ _ _ _ _ q => neg_int q
end
def scal : V -> V -> Bool
 | .non, .non => true | .non, .int _ => true | .int _, .non => true | .non, .bl _ => true | .bl _, .non => true | .non, .str _ => true | .str _, .non => true
 | .int _, .int _ => true | .bl _, .bl _ => true | .str _, .str _ => true | .byt _, .byt _ => true
 | .int _, .str _ => true | .str _, .int _ => true | .bl _, .str _ => true | .str _, .bl _ => true
 | _, _ => false
def rEq : R2 := fun x y H Q => scal x y = true /\ Q (.bl (decide (x = y))) H
def rNe : R2 := fun x y H Q => scal x y = true /\ Q (.bl (!decide (x = y))) H
theorem dec_int {i j : Int} : decide (V.int i = V.int j) = (i == j) := by
 rw [Bool.eq_iff_iff]
 simp
theorem dec_bl {i j : Bool} : decide (V.bl i = V.bl j) = (i == j) := by
 rw [Bool.eq_iff_iff]
 simp
theorem dec_str {i j : Str} : decide (V.str i = V.str j) = (i == j) := by
 rw [Bool.eq_iff_iff]
 simp
theorem dec_byt {i j : Array UInt8} : decide (V.byt i = V.byt j) = (i.toList == j.toList) := by
 rw [Bool.eq_iff_iff]
 cases i
 cases j
 simp
section
variable {X : Cx} {a b c : Expr} {ta tb tc : TE} {pos : Pos}
theorem fin_bl {pins : List (Addr × Obj)} {σ : St} {H : Hp} {s : Shared} {Q : VK} {k k' : Bool} (I : Inv X pins σ H s) (q : Q (.bl k) H) (e : k = k') : EP X pins σ Q (.bool k') s := by
 subst e
 exact ⟨.bl k, H, I, rfl, q⟩
theorem op_eq : OpR X (compareOp .Eq) rEq := by
 intro pins s σ H x y v u Q I rx ry h
 obtain ⟨hs, q⟩ := h
 cases x with
 | non =>
  cases rx
  cases y with
  | non => cases ry; exact PySem.EqNone.eq_none_none (fin_bl I q (by simp))
  | bl j => cases ry; exact PySem.EqNone.eq_none_bool (fin_bl I q (by simp))
  | int j => obtain ⟨t', rfl⟩ := ry; exact PySem.EqNone.eq_none_int (fin_bl I q (by simp))
  | str j => obtain ⟨t', rfl⟩ := ry; exact PySem.EqNone.eq_none_str (fin_bl I q (by simp))
  | _ => exact absurd (show false = true from hs) Bool.false_ne_true
 | bl i =>
  cases rx
  cases y with
  | non => cases ry; exact PySem.EqNone.eq_bool_none (fin_bl I q (by simp))
  | bl j => cases ry; exact eq_bool (fin_bl I q dec_bl)
  | str j => obtain ⟨t', rfl⟩ := ry; exact PySem.EqMixed.eq_bool_str (fin_bl I q (by simp))
  | _ => exact absurd (show false = true from hs) Bool.false_ne_true
 | int i =>
  obtain ⟨t, rfl⟩ := rx
  cases y with
  | non => cases ry; exact PySem.EqNone.eq_int_none (fin_bl I q (by simp))
  | int j => obtain ⟨t', rfl⟩ := ry; exact eq_int (fin_bl I q dec_int)
  | str j => obtain ⟨t', rfl⟩ := ry; exact PySem.EqMixed.eq_int_str (fin_bl I q (by simp))
  | _ => exact absurd (show false = true from hs) Bool.false_ne_true
 | str i =>
  obtain ⟨t, rfl⟩ := rx
  cases y with
  | non => cases ry; exact PySem.EqNone.eq_str_none (fin_bl I q (by simp))
  | bl j => cases ry; exact PySem.EqMixed.eq_str_bool (fin_bl I q (by simp))
  | int j => obtain ⟨t', rfl⟩ := ry; exact PySem.EqMixed.eq_str_int (fin_bl I q (by simp))
  | str j => obtain ⟨t', rfl⟩ := ry; exact eq_str (fin_bl I q dec_str)
  | _ => exact absurd (show false = true from hs) Bool.false_ne_true
 | byt i =>
  obtain ⟨t, rfl⟩ := rx
  cases y with
  | byt j => obtain ⟨t', rfl⟩ := ry; exact PySem.W.eq_bytes (fin_bl I q dec_byt)
  | _ => exact absurd (show false = true from hs) Bool.false_ne_true
 | _ => cases y <;> exact absurd (show false = true from hs) Bool.false_ne_true
theorem op_ne : OpR X (compareOp .NotEq) rNe := by
 intro pins s σ H x y v u Q I rx ry h
 obtain ⟨hs, q⟩ := h
 cases x with
 | non =>
  cases rx
  cases y with
  | non => cases ry; exact PySem.EqNone.ne_none_none (fin_bl I q (by simp))
  | bl j => cases ry; exact PySem.EqNone.ne_none_bool (fin_bl I q (by simp))
  | int j => obtain ⟨t', rfl⟩ := ry; exact PySem.EqNone.ne_none_int (fin_bl I q (by simp))
  | str j => obtain ⟨t', rfl⟩ := ry; exact PySem.EqNone.ne_none_str (fin_bl I q (by simp))
  | _ => exact absurd (show false = true from hs) Bool.false_ne_true
 | bl i =>
  cases rx
  cases y with
  | non => cases ry; exact PySem.EqNone.ne_bool_none (fin_bl I q (by simp))
  | bl j => cases ry; exact ne_bool (fin_bl I q (congrArg not dec_bl))
  | str j => obtain ⟨t', rfl⟩ := ry; exact PySem.EqMixed.ne_bool_str (fin_bl I q (by simp))
  | _ => exact absurd (show false = true from hs) Bool.false_ne_true
 | int i =>
  obtain ⟨t, rfl⟩ := rx
  cases y with
  | non => cases ry; exact PySem.EqNone.ne_int_none (fin_bl I q (by simp))
  | int j => obtain ⟨t', rfl⟩ := ry; exact ne_int (fin_bl I q (congrArg not dec_int))
  | str j => obtain ⟨t', rfl⟩ := ry; exact PySem.EqMixed.ne_int_str (fin_bl I q (by simp))
  | _ => exact absurd (show false = true from hs) Bool.false_ne_true
 | str i =>
  obtain ⟨t, rfl⟩ := rx
  cases y with
  | non => cases ry; exact PySem.EqNone.ne_str_none (fin_bl I q (by simp))
  | bl j => cases ry; exact PySem.EqMixed.ne_str_bool (fin_bl I q (by simp))
  | int j => obtain ⟨t', rfl⟩ := ry; exact PySem.EqMixed.ne_str_int (fin_bl I q (by simp))
  | str j => obtain ⟨t', rfl⟩ := ry; exact ne_str (fin_bl I q (congrArg not dec_str))
  | _ => exact absurd (show false = true from hs) Bool.false_ne_true
 | byt i =>
  obtain ⟨t, rfl⟩ := rx
  cases y with
  | byt j => obtain ⟨t', rfl⟩ := ry; exact PySem.W.ne_bytes (fin_bl I q (congrArg not dec_byt))
  | _ => exact absurd (show false = true from hs) Bool.false_ne_true
 | _ => cases y <;> exact absurd (show false = true from hs) Bool.false_ne_true
theorem op_lt : OpR X (compareOp .Lt) (rI0 fun i j => .bl (decide (i < j))) := opB0 fun _ _ _ _ _ _ _ q => lt_int q
theorem op_le : OpR X (compareOp .LtE) (rI0 fun i j => .bl (decide (i <= j))) := opB0 fun _ _ _ _ _ _ _ q => le_int q
theorem op_gt : OpR X (compareOp .Gt) (rI0 fun i j => .bl (decide (j < i))) := opB0 fun _ _ _ _ _ _ _ q => gt_int q
theorem op_ge : OpR X (compareOp .GtE) (rI0 fun i j => .bl (decide (j <= i))) := opB0 fun _ _ _ _ _ _ _ q => ge_int q
theorem op_isN : OpR X (compareOp .Is) (fun x y H Q => y = .non /\ Q (.bl (decide (x = .non))) H) := by
 intro pins s σ H x y v u Q I rx ry h
 obtain ⟨rfl, q⟩ := h
 cases ry
 refine is_none_gen (fin_bl I q ?_)
 cases x <;> first
  | (cases rx; rfl)
  | (obtain ⟨t, rfl⟩ := rx; rfl)
theorem nomark (b : Expr) {op : CmpOp} (h : op ≠ .In := by decide) (h2 : op ≠ .NotIn := by decide) : behindInMarks op b = false := by
 have e1 : (op == CmpOp.In) = false := by cases op <;> first | rfl | exact absurd rfl h
 have e2 : (op == CmpOp.NotIn) = false := by cases op <;> first | rfl | exact absurd rfl h2
 cases b <;> simp [behindInMarks, e1, e2]
theorem pe_cmpR {op : CmpOp} {r : R2} (ho : OpR X (compareOp op) r) (ha : PE X a ta) (hb : PE X b tb) (hm : behindInMarks op b = false) : PE X (.Compare a [op] [b] pos) (tOp r ta tb) := by
 intro pins s σ H Q I h
 exact wpAny_Compare1 (binT ha hb I h fun v u s2 x y H2 I2 rx ry q => ho pins s2 σ H2 x y v u Q I2 rx ry q) hm
def tTest (t : TE) : TT := fun σ H Q => t σ H fun x H' => ∃ k, x = .bl k /\ Q k H'
theorem pt_cmpR {op : CmpOp} {r : R2} (ho : OpR X (compareOp op) r) (ha : PE X a ta) (hb : PE X b tb) (hm : behindInMarks op b = false) : PT X (.Compare a [op] [b] pos) (tTest (tOp r ta tb)) := by
 intro pins s σ H Q I h
 refine wpAny_isTrue_Compare1 (thn (ha pins s σ H _ I h) fun v s1 ⟨x, H1, I1, r1, q1⟩ => thn (hb pins s1 σ H1 _ I1 q1) fun u s2 ⟨y, H2, I2, r2, q2⟩ =>
  thn (ho pins s2 σ H2 x y v u _ I2 r1 r2 q2) fun c s3 ⟨z, H3, I3, r3, k, e, q3⟩ => ?_) hm
 subst e
 cases r3
 exact wpAny_truthy_bool ⟨H3, I3, q3⟩
theorem line63 : (sizeLine : Nat) < 2 ^ 63 := by rw [sizeLine_eq]; decide
theorem op_add_str : OpR X (binaryOp .Add) (fun x y H Q => ∃ i j, x = .str i /\ y = .str j /\ i.length + j.length <= sizeLine /\ Q (.str (i ++ j)) H) := by
 intro pins s σ H x y v u Q I rx ry h
 obtain ⟨i, j, rfl, rfl, hz, q⟩ := h
 obtain ⟨t, rfl⟩ := rx
 obtain ⟨t', rfl⟩ := ry
 exact add_str (fun t' tk => ⟨.str (i ++ j), H, I.tok _, ⟨_, rfl⟩, q⟩) hz
theorem vals1 {x : V} {us : List Value} (r : Vals [x] us) : ∃ u, us = [u] /\ RelV x u := by
 cases r with
 | cons r1 r2 => cases r2; exact ⟨_, rfl, r1⟩
theorem vals2 {x y : V} {us : List Value} (r : Vals [x, y] us) : ∃ u w', us = [u, w'] /\ RelV x u /\ RelV y w' := by
 cases r with
 | cons r1 r2 =>
  cases r2 with
  | cons r3 r4 => cases r4; exact ⟨_, _, rfl, r1, r3⟩
theorem call_abs : CallR X (.builtin "abs") (fun xs H Q => ∃ i, xs = [.int i] /\ Q (.int (if i < 0 then -i else i)) H) := by
 intro pins s σ H xs us Q I r h
 obtain ⟨i, rfl, q⟩ := h
 obtain ⟨u, rfl, t, rfl⟩ := vals1 r
 exact call_abs_int fun u tk => ⟨.int (if i < 0 then -i else i), H, I.tok _, ⟨_, rfl⟩, q⟩
theorem call_max2 (hc : X.calm = true) : CallR X (.builtin "max") (fun xs H Q => ∃ i j, xs = [.int i, .int j] /\ Q (.int (if j > i then j else i)) H) := by
 intro pins s σ H xs us Q I r h
 obtain ⟨i, j, rfl, q⟩ := h
 obtain ⟨u, w', rfl, ⟨t, rfl⟩, ⟨t', rfl⟩⟩ := vals2 r
 refine max_two_ints (I.ok.hd hc) fun h' tk k => ⟨_, H, I.kept k, ?_, q⟩
 by_cases hj : j > i
 ·rw [if_pos hj, if_pos hj]; exact ⟨_, rfl⟩
 ·rw [if_neg hj, if_neg hj]; exact ⟨_, rfl⟩
theorem call_min2 (hc : X.calm = true) : CallR X (.builtin "min") (fun xs H Q => ∃ i j, xs = [.int i, .int j] /\ Q (.int (if j < i then j else i)) H) := by
 intro pins s σ H xs us Q I r h
 obtain ⟨i, j, rfl, q⟩ := h
 obtain ⟨u, w', rfl, ⟨t, rfl⟩, ⟨t', rfl⟩⟩ := vals2 r
 refine min_two_ints (I.ok.hd hc) fun h' tk k => ⟨_, H, I.kept k, ?_, q⟩
 by_cases hj : j < i
 ·rw [if_pos hj, if_pos hj]; exact ⟨_, rfl⟩
 ·rw [if_neg hj, if_neg hj]; exact ⟨_, rfl⟩
theorem call_int1 : CallR X (.type "int") (fun xs H Q => (∃ i, xs = [.int i] /\ Q (.int i) H) \/ ∃ k, xs = [.bl k] /\ Q (.int (if k then 1 else 0)) H) := by
 intro pins s σ H xs us Q I r h
 rcases h with ⟨i, rfl, q⟩ | ⟨k, rfl, q⟩
 ·obtain ⟨u, rfl, t, rfl⟩ := vals1 r
  exact call_int_int ⟨.int i, H, I, ⟨_, rfl⟩, q⟩
 ·obtain ⟨u, rfl, r1⟩ := vals1 r
  cases r1
  exact call_int_bool ⟨.int (if k then 1 else 0), H, I.tok _, ⟨_, rfl⟩, q⟩
end
end L2
namespace L2
open PySem PySem.Spec PyProof.Rows
structure ObjM (h : Heap) (x dx C : Addr) (mA : Str -> Option Value) : Prop where
 obj : h.get? x = some (PySem.W.instObj C dx)
 ns : h.Ns1 dx mA
 ne : dx ≠ x
theorem lookIn_ns {h : Heap} {dx : Addr} {mA : Str -> Option Value} (n : h.Ns1 dx mA) : ∃ od, h.get? dx = some od /\ ∀ name, PySem.W.lookIn name od = some (mA name) := by
 obtain ⟨o, es, ep, ho, hd, hk, _, hm⟩ := n
 refine ⟨o, ho, fun name => ?_⟩
 have e := hm name
 unfold nsFind findBy at e
 rw [<- Array.find?_toList] at e
 unfold PySem.W.lookIn
 rw [hd]
 dsimp only
 split
 ·rename_i y q
  rw [q] at e
  exact congrArg some e
 ·rename_i q
  rw [q] at e
  have a : es.toList.any (·.refKey) = false := by
   rw [List.any_eq_false]
   intro y hy
   obtain ⟨z, t, hkey⟩ := hk y (Array.mem_toList_iff.mp hy)
   simp [DictEntry.refKey, hkey]
  have a' : ¬ es.toList.any (·.refKey) = true := by rw [a]; exact Bool.false_ne_true
  rw [if_neg a']
  exact congrArg some e
theorem ObjM.look {h : Heap} {x dx C : Addr} {mA : Str -> Option Value} (I : ObjM h x dx C mA) : ∃ od, PySem.W.InstAt h x (PySem.W.instObj C dx) C (some od) /\ ∀ name, PySem.W.lookIn name od = some (mA name) :=
 let ⟨od, ho, hl⟩ := lookIn_ns I.ns
 ⟨od, ⟨I.obj, rfl, rfl, ho⟩, hl⟩
section
variable {P : Program} {w : World} {H H' : Hp} {h h' : Heap} {a C dx : Addr} {fs fs' : List (Str × V)}
theorem ins_get (hok : HOk P w H h) (e : H a = some (.ins C dx fs)) : ∃ mA, ObjM h a dx C mA /\ (∀ f, RelO (fs.lookup f) (mA f)) /\ PySem.Within mA (fs.map (·.1)) /\ fs.length <= 1000 /\ H dx = some (.own a) := by
 obtain ⟨d, z, ne, ob, mA, n, r, q⟩ := (show ObjOk P w H h a (.ins C dx fs) from hok a _ e)
 exact ⟨mA, ⟨ob, n, ne⟩, r, q, z, d⟩
end
structure Cls (K : PySem.W.Frag) (C : Addr) : Prop where
 pg : PySem.W.plainGet K C Str.empty = true
 hd : PySem.W.hasDictIn K C = true
 po : PySem.W.plainOver K C = true
 sa : PySem.W.findIn K (.ref C) "__setattr__" = some (some (.builtin "object.__setattr__"))
theorem Cls.get {K : PySem.W.Frag} {C : Addr} (c : Cls K C) (f : Str) : PySem.W.plainGet K C f = true := c.pg
section
variable {X : Cx} {pins : List (Addr × Obj)} {σ : St} {H : Hp} {s : Shared} {A : Around} {E : Value -> Shared -> Prop} {Q : Value -> Shared -> Prop} {c : Value} {b : Bool}
inductive TyOf (K : PySem.W.Frag) (H : Hp) : V -> Value -> Prop where
 | non : TyOf K H .non (.type "NoneType")
 | bl (x : Bool) : TyOf K H (.bl x) (.type "bool")
 | int (i : Int) : TyOf K H (.int i) (.type "int")
 | str (x : Str) : TyOf K H (.str x) (.type "str")
 | flt (x : UInt64) : TyOf K H (.flt x) (.type "float")
 | lst {a : Addr} {xs : List V} (e : H a = some (.lst xs)) : TyOf K H (.ref a) (.type "list")
 | frz {a : Addr} {o : Obj} {xs : List V} (e : H a = some (.frz o (.lst xs))) : TyOf K H (.ref a) (.type "list")
 | tup {a : Addr} {xs : List V} (e : H a = some (.tup xs)) : TyOf K H (.ref a) (.type "tuple")
 | dK {a : Addr} {kvs : List (Key × V)} (e : H a = some (.dK kvs)) : TyOf K H (.ref a) (.type "dict")
 | dT {a : Addr} {kvs : List (List Key × V)} (e : H a = some (.dT kvs)) : TyOf K H (.ref a) (.type "dict")
 | ins {a C dx : Addr} {fs : List (Str × V)} (e : H a = some (.ins C dx fs)) (cl : Cls K C) (ha : PySem.W.findIn K (.ref C) "__class__" = some (some (.builtin "object.__class__")))
   (hn : PySem.W.specialIn K (.builtin "object.__class__") "__get__" = some (some (.builtin "getset_descriptor.__get__"))) (htk : PySem.W.takesIn K (.builtin "object.__class__") = some true)
   (hm : PySem.W.mroIn K C (.type "object") = some true) : TyOf K H (.ref a) (.ref C)
theorem isinst_ok {x : V} {u t : Value} (I : Inv X pins σ H s) (rx : RelV x u) (ty : TyOf X.K H x t) (e : PySem.W.kitOne X.K t c = some b) (h : ∀ tk, Q (.bool b) { s with toks := tk }) :
  wpAny (model X.prog X.w) A (call (.builtin "isinstance") [u, c]) Q E s := by
 cases ty with
 | non => cases (show u = Value.none from rx); exact PySem.W.kia_one PySem.W.kitx_none I.kIn True.intro e (fun z => nomatch z) h
 | bl y => cases (show u = Value.bool y from rx); exact PySem.W.kia_one PySem.W.kitx_bool I.kIn True.intro e (fun z => nomatch z) h
 | int i => obtain ⟨t, q⟩ := (show ∃ t, u = Value.int i t from rx); cases q; exact PySem.W.kia_one PySem.W.kitx_int I.kIn True.intro e (fun z => nomatch z) h
 | str y => obtain ⟨t, q⟩ := (show ∃ t, u = Value.str y t from rx); cases q; exact PySem.W.kia_one PySem.W.kitx_str I.kIn True.intro e (fun z => nomatch z) h
 | flt y => obtain ⟨t, q⟩ := (show ∃ t, u = Value.float y t from rx); cases q; exact PySem.W.kia_one PySem.W.kitx_float I.kIn True.intro e (fun z => nomatch z) h
 | @lst a xs ea =>
  cases (show u = Value.ref a from rx)
  obtain ⟨_, _, n, _, h1⟩ := (show ObjOk X.prog X.w H s.heap a (.lst xs) from I.hok a _ ea)
  exact PySem.W.kia_one PySem.W.kitx_list I.kIn ⟨_, h1, rfl⟩ e (fun z => nomatch z) h
 | @frz a ob xs ea =>
  cases (show u = Value.ref a from rx)
  obtain ⟨_, _, _, n, _, h1⟩ := (show ObjOk X.prog X.w H s.heap a (.frz ob (.lst xs)) from I.hok a _ ea)
  exact PySem.W.kia_one PySem.W.kitx_list I.kIn ⟨_, h1, rfl⟩ e (fun z => nomatch z) h
 | @tup a xs ea =>
  cases (show u = Value.ref a from rx)
  obtain ⟨_, _, _, p⟩ := (show ObjOk X.prog X.w H s.heap a (.tup xs) from I.hok a _ ea)
  obtain ⟨o, h1, h2, _⟩ := p
  exact PySem.W.kia_one PySem.W.kitx_tuple I.kIn ⟨o, h1, h2⟩ e (fun z => nomatch z) h
 | @dK a kvs ea =>
  cases (show u = Value.ref a from rx)
  obtain ⟨_, _, vs, _, p⟩ := (show ObjOk X.prog X.w H s.heap a (.dK kvs) from I.hok a _ ea)
  obtain ⟨o, es, ep, h1, h2, _⟩ := p
  exact PySem.W.kia_one PySem.W.kitx_dict I.kIn ⟨o, h1, h2.1⟩ e (fun z => nomatch z) h
 | @dT a kvs ea =>
  cases (show u = Value.ref a from rx)
  obtain ⟨_, _, xs, _, o, es, ep, h1, h2, _⟩ := (show ObjOk X.prog X.w H s.heap a (.dT kvs) from I.hok a _ ea)
  exact PySem.W.kia_one PySem.W.kitx_dict I.kIn ⟨o, h1, h2.1⟩ e (fun z => nomatch z) h
 | @ins a C dx fs ea cl ha hn htk hm =>
  cases (show u = Value.ref a from rx)
  obtain ⟨mA, O, _⟩ := ins_get I.hok ea
  obtain ⟨od, J, _⟩ := O.look
  exact PySem.W.kia_one (PySem.W.kitx_own (cl.get _) cl.hd ha hn htk hm) I.kIn J e (fun z => nomatch z) h
end
end L2
namespace L2
open PySem PySem.Spec PyProof.Rows
structure Room (k : Nat) (A : Around) : Prop where
 hd : A.handled = none
 dp : A.depth + 3 * k + 5 < recursionLimit
 un : A.units + 16 * k + 200 < cLine
theorem Room.mono {j k : Nat} {A : Around} (r : Room k A) (h : j <= k) : Room j A := ⟨r.hd, by have := r.dp; omega, by have := r.un; omega⟩
theorem Room.deeper {k : Nat} {A : Around} (r : Room (k + 1) A) (env : Env) : Room k (A.deeper env) :=
 ⟨r.hd, by have := r.dp; show A.depth + 1 + 3 * k + 5 < _; omega, by have := r.un; show A.units + 3 + 16 * k + 200 < _; omega⟩
theorem Room.depth {k : Nat} {A : Around} (r : Room k A) : A.depth < recursionLimit := by have := r.dp; omega
theorem Room.units {k : Nat} {A : Around} (r : Room k A) : A.units + 64 < cLine := by have := r.un; omega
def tNil : TA := fun _ H Q => Q [] H
def tCons (ta : TE) (tr : TA) : TA := fun σ H Q => ta σ H fun x H1 => tr σ H1 fun xs H2 => Q (x :: xs) H2
section
variable {X : Cx} {e : Expr} {es : List Expr} {te : TE} {t : TA} {pos : Pos}
theorem pa_nil : PA X [] tNil := fun _ _ _ _ H Q I h => Calls.spliced_nil ⟨[], H, I, .nil, h⟩
theorem pa_cons (ha : PE X e te) (hr : PA X es t) (hs : starEach (e :: es) X.env = (false, eval e X.env) :: starEach es X.env := by rfl) : PA X (e :: es) (tCons te t) := by
 intro pos pins s σ H Q I h
 rw [hs]
 show wpAny _ _ (spliced ((false, eval e X.env) :: backTo pos (starEach es X.env))) _ _ s
 refine Calls.spliced_cons (thn (ha pins s σ H _ I h) fun u s1 ⟨x, H1, I1, r1, q1⟩ => ?_)
 exact thn (hr pos pins s1 σ H1 _ I1 q1) fun us s2 ⟨xs, H2, I2, r2, q2⟩ => ⟨x :: xs, H2, I2, .cons r1 r2, q2⟩
def tTup (t : TA) : TE := fun σ H Q => t σ H fun xs H1 => xs.length <= sizeLine /\ ∀ p, H1 p = none -> Q (.ref p) (upd H1 p (.tup xs))
def tLst (t : TA) : TE := fun σ H Q => t σ H fun xs H1 => xs.length <= sizeLine /\ ∀ p, H1 p = none -> Q (.ref p) (upd H1 p (.lst xs))
theorem pe_tup {x1} (h : PA X es t) : PE X (.Tuple es x1 pos) (tTup t) := by
 intro pins s σ H Q I hq
 refine wpAny_Tuple_spliced (thn (h pos pins s σ H _ I hq) fun us s1 ⟨xs, H1, I1, r, z, q⟩ => ⟨by rw [<- r.length]; exact z, ?_⟩)
 have hf : H1 s1.heap.objs.size = none := I1.hok.fresh (Nat.le_refl _)
 refine ⟨.ref s1.heap.objs.size, upd H1 s1.heap.objs.size (.tup xs), I1.laid (t' := s1.toks) (fun b u e => Heap.get?_push_of_some _ e) (Nat.le_refl _) ?_, rfl, q _ hf⟩
 exact ⟨z, us, r, ⟨_, Heap.get?_push_size _ rfl, rfl, _, rfl⟩⟩
theorem pe_lst (h : PA X es t) : PE X (.List es pos) (tLst t) := by
 intro pins s σ H Q I hq
 refine wpAny_List_spliced (thn (h pos pins s σ H _ I hq) fun us s1 ⟨xs, H1, I1, r, z, q⟩ => ⟨by rw [<- r.length]; exact z, ?_⟩)
 have hf : H1 s1.heap.objs.size = none := I1.hok.fresh (Nat.le_refl _)
 refine ⟨.ref s1.heap.objs.size, upd H1 s1.heap.objs.size (.lst xs), I1.laid (t' := s1.toks) (fun b u e => Heap.get?_push_of_some _ e) (Nat.le_refl _) ?_, rfl, q _ hf⟩
 exact ⟨z, us, 0, r, Heap.get?_push_size _ rfl⟩
end
abbrev Sp := List V -> Hp -> VK -> XK -> Prop
abbrev CXT := List Env -> Hp -> Shared -> XK -> Value -> Shared -> Prop
structure Env0 (P : Program) (w : World) (K : PySem.W.Frag) (mg : Str -> Option Value) (base : Heap) (A : Around) (outer : List Env) (s : Shared) (H : Hp) : Prop where
 frames : A.frames = some outer
 mod : Mod K mg base
 bs : ∀ b o, base.get? b = some o -> s.heap.get? b = some o /\ H b = none
 bsz : base.objs.size <= s.heap.objs.size
 funs : s.heap.FunFrames base outer
 frf : ∀ b ∈ frs outer, H b = none
 hok : HOk P w H s.heap
 bare : AllBare s.gens
def CE (outer : List Env) (P : Program) (w : World) (H : Hp) (s : Shared) (Q : VK) (u : Value) (s' : Shared) : Prop :=
 ∃ v H', s'.os = s.os /\ AllBare s'.gens /\ Un (frs outer) [] H H' s.heap s'.heap /\ HOk P w H' s'.heap /\ RelV v u /\ Q v H'
def CR (CX : CXT) (outer : List Env) (P : Program) (w : World) (H : Hp) (s : Shared) (Q : VK) (E : XK) (r : Result) (s' : Shared) : Prop :=
 match r with
 | .ok (.ret u) => CE outer P w H s Q u s'
 | .ok _ => False
 | .error e => CX outer H s E e s'
structure FnOk (P : Program) (w : World) (K : PySem.W.Frag) (mg : Str -> Option Value) (base : Heap) (CX : CXT) (k : Nat) (f : Addr) (fd : FuncData) (ps : List Str) (sp : Sp) : Prop where
 len : ∀ vs H Q E, sp vs H Q E -> vs.length = ps.length
 run : ∀ (A : Around) (outer : List Env) (s : Shared) (H : Hp) (args : Args) (us : List Value) (vs : List V) (Q : VK) (E : XK), Room k A -> Env0 P w K mg base A outer s H -> BindsTo s fd args (ps.zip us) -> Vals vs us -> sp vs H Q E ->
  codeAny (model P w) A (.call (.ref f) args) (CR CX outer P w H s Q E) s
theorem FnOk.imp {P : Program} {w : World} {K : PySem.W.Frag} {mg : Str -> Option Value} {base : Heap} {CX : CXT} {k : Nat} {f : Addr} {fd : FuncData} {ps : List Str} {sp sp' : Sp} (F : FnOk P w K mg base CX k f fd ps sp)
  (h : ∀ vs H Q E, sp' vs H Q E -> sp vs H Q E) : FnOk P w K mg base CX k f fd ps sp' :=
 ⟨fun vs H Q E q => F.len vs H Q E (h _ _ _ _ q), fun A outer s H args us vs Q E hr he hb hv hs => F.run A outer s H args us vs Q E hr he hb hv (h _ _ _ _ hs)⟩
section
variable {X : Cx} {pins : List (Addr × Obj)} {σ : St} {H : Hp} {s s' : Shared}
theorem Inv.env0 (I : Inv X pins σ H s) : Env0 X.prog X.w X.K X.mg X.base X.A X.stack s H :=
 ⟨I.ok.frames, I.ok.mod, I.bs, Nat.le_trans I.ok.bsz I.sz, I.stack, I.stkFree, I.hok, I.bare⟩
theorem Inv.after {Q : VK} {u : Value} (I : Inv X pins σ H s) (h : CE X.stack X.prog X.w H s Q u s') : EP X pins σ Q u s' := by
 obtain ⟨v, H', os, bare, un, hok, r, q⟩ := h
 obtain ⟨hh, g, d, t, os'⟩ := s'
 obtain rfl : os' = s.os := os
 exact ⟨v, H', I.call (h' := hh) (g' := g) (d' := d) (t' := t) (ch := []) un hok bare (fun b z => absurd z (by simp)), r, q⟩
end
def tCall (sp : Sp) (dvs : List V) (E : XK) (t : TA) : TE := fun σ H Q => t σ H fun vs H1 => sp (vs ++ dvs) H1 Q E
def Binds (K : PySem.W.Frag) (fd : FuncData) (ps : List Str) (ds : List Value) : Prop :=
 ∀ (s : Shared) (us : List Value), K.In s.heap -> (us ++ ds).length = ps.length -> BindsTo s fd ⟨us, []⟩ (ps.zip (us ++ ds))
theorem Binds.all {K : PySem.W.Frag} {fd : FuncData} {ps : List Str} (h : ∀ us : List Value, us.length = ps.length -> bindArgs fd ⟨us, []⟩ = pure (ps.zip us)) : Binds K fd ps [] := fun s us _ hl => by
 rw [List.append_nil] at hl ⊢
 exact .of_eq (h us hl)
def Passes (CX : CXT) (X : Cx) (E : XK) : Prop := ∀ (pins : List (Addr × Obj)) (σ : St) (H : Hp) (s : Shared) (e : Value) (s' : Shared), Inv X pins σ H s -> CX X.stack H s E e s' -> X.xe e s'
section
variable {X : Cx} {CX : CXT} {k : Nat} {f C : Addr} {fd : FuncData} {ps : List Str} {sp : Sp} {dvs : List V} {ds : List Value} {E : XK} {x m : Str} {p pos apos : Pos} {e o : Expr} {es : List Expr} {ta : TE} {t : TA}
theorem run_fn {pins : List (Addr × Obj)} {σ : St} {H : Hp} {s : Shared} {Q : VK} {us : List Value} {vs : List V} (F : FnOk X.prog X.w X.K X.mg X.base CX k f fd ps sp) (hr : Room k X.A) (hb : Binds X.K fd ps ds) (hd : Vals dvs ds) (hx : Passes CX X E)
  (I : Inv X pins σ H s) (r : Vals vs us) (h : sp (vs ++ dvs) H Q E) : wpAny (model X.prog X.w) X.A (call (.ref f) us) (EP X pins σ Q) X.xe s := by
 have r2 : Vals (vs ++ dvs) (us ++ ds) := r.append hd
 have hl : (us ++ ds).length = ps.length := by rw [<- r2.length]; exact F.len _ _ _ _ h
 refine wpAny_call (codeAny_mono (F.run X.A X.stack s H ⟨us, []⟩ (us ++ ds) (vs ++ dvs) Q E hr I.env0 (hb s us I.kIn hl) r2 h) fun r s' hq => ?_)
 cases r with
 | error e => exact hx pins σ H s e s' I hq
 | ok fl =>
  cases fl with
  | ret u => exact I.after hq
  | next => exact False.elim hq
  | brk => exact False.elim hq
  | cont => exact False.elim hq
theorem pe_call (F : FnOk X.prog X.w X.K X.mg X.base CX k f fd ps sp) (hr : Room k X.A) (hg : Gl X x) (hm : X.mg x = some (.ref f)) (hk : PySem.W.keepIn X.K (.ref f) = true) (hb : Binds X.K fd ps ds) (hd : Vals dvs ds) (hx : Passes CX X E)
  (ha : PA X (e :: es) t) (hdb : (x == ("__debug__" : Str)) = false := by decide) (he : starEach (e :: es) X.env = (false, eval e X.env) :: starEach es X.env := by rfl) (hpl : (backTo pos (starEach es X.env)).any (·.1) = false := by rfl) :
  PE X (.Call (.Name x p) (e :: es) [] pos) (tCall sp dvs E t) := by
 intro pins s σ H Q I h
 refine wpAny_Call_Name_kw (ld_glob I hg hm ?_ hdb)
 refine PySem.W.callWith_K (h₀ := X.base) I.ok.mod.kin hk (thn (ha pos pins s σ H _ I h) fun us s1 ⟨vs, H1, I1, r, q⟩ => ⟨I1.kIn, ?_⟩) he hpl
 exact run_fn F hr hb hd hx I1 r q
end
structure FnScope (N P : List Str) (sc : Scope) : Prop where
 kind : sc.kind = .function
 co : sc.isCoroutine = false
 gen : sc.isGenerator = false
 nd : N.Nodup
 pre : N.take P.length = P
 par : ∀ x ∈ P, sc.names.lookup x = some .local \/ sc.names.lookup x = some .cell
 nofree : ∀ y ∈ sc.names, y.2 ≠ .free
theorem bindL_out {kindOf : Str -> Option NameKind} {x : Str} : ∀ {binds : List (Str × Value)} {m : Str -> Option Value}, (∀ v, (x, v) ∉ binds) -> bindL kindOf binds m x = m x
 | [], _, _ => rfl
 | (n, v) :: r, m, h => by
  unfold bindL
  rw [bindL_out fun w hw => h w (List.mem_cons_of_mem _ hw)]
  split
  ·have : x ≠ n := by rintro rfl; exact h v List.mem_cons_self
   simp [this]
  ·rfl
theorem bindC_out {kindOf : Str -> Option NameKind} {x : Str} : ∀ {binds : List (Str × Value)} {m : Str -> Option Value}, (∀ v, (x, v) ∉ binds) -> bindC kindOf binds m x = m x
 | [], _, _ => rfl
 | (n, v) :: r, m, h => by
  unfold bindC
  rw [bindC_out fun w hw => h w (List.mem_cons_of_mem _ hw)]
  split
  ·rfl
  ·have : x ≠ n := by rintro rfl; exact h v List.mem_cons_self
   simp [this]
theorem bindL_get {kindOf : Str -> Option NameKind} {x : Str} {v : Value} : ∀ {P : List Str} {vs : List Value} {i : Nat} {m : Str -> Option Value}, P.Nodup -> P[i]? = some x -> vs[i]? = some v -> kindOf x = some .local ->
  bindL kindOf (P.zip vs) m x = some v
 | [], _, _, _, _, h, _, _ => by simp at h
 | _ :: _, [], _, _, _, _, h, _ => by simp at h
 | p :: P, w :: vs, 0, m, nd, h1, h2, hk => by
  simp at h1 h2; subst h1; subst h2
  show bindL kindOf ((p, w) :: P.zip vs) m p = _
  unfold bindL
  rw [bindL_out fun v hv => (List.nodup_cons.mp nd).1 (List.of_mem_zip hv).1, if_pos hk]
  simp
 | p :: P, w :: vs, i + 1, m, nd, h1, h2, hk => by
  show bindL kindOf ((p, w) :: P.zip vs) m x = _
  unfold bindL
  exact bindL_get (i := i) (List.nodup_cons.mp nd).2 (by simpa using h1) (by simpa using h2) hk
theorem bindC_get {kindOf : Str -> Option NameKind} {x : Str} {v : Value} : ∀ {P : List Str} {vs : List Value} {i : Nat} {m : Str -> Option Value}, P.Nodup -> P[i]? = some x -> vs[i]? = some v -> kindOf x ≠ some .local ->
  bindC kindOf (P.zip vs) m x = some v
 | [], _, _, _, _, h, _, _ => by simp at h
 | _ :: _, [], _, _, _, _, h, _ => by simp at h
 | p :: P, w :: vs, 0, m, nd, h1, h2, hk => by
  simp at h1 h2; subst h1; subst h2
  show bindC kindOf ((p, w) :: P.zip vs) m p = _
  unfold bindC
  rw [bindC_out fun v hv => (List.nodup_cons.mp nd).1 (List.of_mem_zip hv).1, if_neg hk]
  simp
 | p :: P, w :: vs, i + 1, m, nd, h1, h2, hk => by
  show bindC kindOf ((p, w) :: P.zip vs) m x = _
  unfold bindC
  exact bindC_get (i := i) (List.nodup_cons.mp nd).2 (by simpa using h1) (by simpa using h2) hk
def start (N : List Str) (vs : List V) : St := vs.map some ++ List.replicate (N.length - vs.length) none
def cxOf (CX : CXT) (P : Program) (w : World) (K : PySem.W.Frag) (mg : Str -> Option Value) (base : Heap) (N : List Str) (qual : Str) (scope : Scope) (f : Addr) (cd : Value) (A : Around) (outer : List Env) (s : Shared) (H : Hp) (E : XK) : Cx where
 prog := P
 w := w
 K := K
 mg := mg
 base := base
 A := A.deeper (envOfC qual scope s.heap.objs.size f cd)
 N := N
 s₀ := s
 H₀ := H
 env := envOfC qual scope s.heap.objs.size f cd
 outer := outer
 stack := envOfC qual scope s.heap.objs.size f cd :: outer
 ex := []
 calm := true
 fn := fun _ => true
 pn := []
 xe := fun e s' => wpAny (model P w) (A.deeper (envOfC qual scope s.heap.objs.size f cd)) (leaving (envOfC qual scope s.heap.objs.size f cd) e) (fun _ s'' => CX outer H s E e s'') (fun e' s'' => CX outer H s E e' s'') s'
theorem cell_has {sc : Scope} {n : Nat} {x : Str} (h : sc.names.lookup x = some .cell) : ∃ c, (cellsFrom n sc.names []).lookup x = some c := by
 have q := PySem.W.cellsFrom_some sc.names n [] (.inl h)
 exact Option.isSome_iff_exists.mp q
theorem inv_start {CX : CXT} {P : Program} {w : World} {K : PySem.W.Frag} {mg : Str -> Option Value} {base : Heap} {N ps : List Str} {qual : Str} {scope : Scope} {f : Addr} {cd : Value} {A : Around} {outer : List Env} {s s1 : Shared} {H : Hp} {E : XK} {us : List Value} {vs : List V}
  (S : FnScope N ps scope) (hd : A.handled = none) (e0 : Env0 P w K mg base A outer s H) (hl : vs.length = ps.length) (r : Vals vs us)
  (x : InCallC s s.heap.objs.size (bindL (envOfC qual scope s.heap.objs.size f cd).kindOf (ps.zip us) fun _ => none) (cellsFrom (s.heap.objs.size + 1) scope.names []) (bindC (envOfC qual scope s.heap.objs.size f cd).kindOf (ps.zip us) fun _ => none) s1) :
  Inv (cxOf CX P w K mg base N qual scope f cd A outer s H E) [] (start N vs) H s1 := by
 have hpl : ps.length <= N.length := by have := congrArg List.length S.pre; rw [List.length_take] at this; omega
 obtain ⟨h1, tk, rfl, hk⟩ := x.done
 have noA : ∀ b : Addr, b ∉ (cxOf CX P w K mg base N qual scope f cd A outer s H E).ex := fun b z => absurd (show b ∈ ([] : List Addr) from z) (by simp)
 refine ⟨⟨e0.mod, S.kind, rfl, rfl, Nat.le_refl _, fun y z c h1 h2 => ?_, fun y hy => ?_, fun y c _ h => ?_, fun _ => hd, Around.frames_deeper e0.frames, .inr ⟨rfl, rfl⟩, fun b z => absurd z (noA b), e0.bs, e0.bsz, fun b _ _ => noA b, fun b z => absurd z (noA b), e0.funs, e0.frf⟩,
  rfl, e0.bare, Un.kept hk, ⟨_, x.toInCall.ns, fun i y v h1 h2 h3 => ?_⟩, fun y c h => ⟨_, x.cell y c h⟩, e0.hok.fresh (Nat.le_refl _), fun y c h => ?_, fun p hp => absurd (show p ∈ ([] : List (Addr × Obj)) from hp) (by simp), e0.hok.kept hk, ?_⟩
 ·exact name_of_addr x.apart (PySem.mem_of_lookup h1) (PySem.mem_of_lookup h2)
 ·have hy : scope.names.lookup y = some .cell \/ scope.names.lookup y = some .free := hy
  rcases hy with hy | hy
  ·exact cell_has hy
  ·exact absurd rfl (S.nofree _ (PySem.mem_of_lookup hy))
 ·exact Nat.le_of_lt (x.above y c (PySem.mem_of_lookup h))
 ·have hi : i < vs.length := by
   unfold start at h2
   by_cases hi : i < vs.length
   ·exact hi
   ·rw [List.getElem?_append_right (by simpa using hi)] at h2
    rw [List.getElem?_replicate] at h2
    split at h2 <;> cases h2
  have ha : vs[i]? = some v := by
   unfold start at h2
   rw [List.getElem?_append_left (by simpa using hi), List.getElem?_map] at h2
   cases e : vs[i]? with
   | none => rw [e] at h2; cases h2
   | some a => rw [e] at h2; cases h2; rfl
  obtain ⟨u, hu, rv⟩ := r.get ha
  have hp : ps[i]? = some y := by
   rw [<- S.pre, List.getElem?_take_of_lt (by omega)]; exact h1
  have ndP : ps.Nodup := by rw [<- S.pre]; exact S.nd.sublist (List.take_sublist _ _)
  refine ⟨u, rv, ?_⟩
  rcases S.par y (List.mem_of_getElem? hp) with k | k
  ·exact .inl ⟨k, bindL_get ndP hp hu k⟩
  ·obtain ⟨c, e⟩ := cell_has (n := s.heap.objs.size + 1) k
   refine .inr ⟨.inl k, c, e, ?_⟩
   have q := x.cell y c e
   rw [bindC_get ndP hp hu (by show scope.names.lookup y ≠ _; rw [k]; decide)] at q
   exact q
 ·exact e0.hok.fresh (Nat.le_of_lt (x.above y c (PySem.mem_of_lookup h)))
 ·unfold start
  show _ = N.length
  rw [List.length_append, List.length_map, List.length_replicate]
  omega
theorem fn_of {CX : CXT} {P : Program} {w : World} {K : PySem.W.Frag} {mg : Str -> Option Value} {base : Heap} {k : Nat} {f : Addr} {name qual : Str} {params : Arguments} {body : List Stmt} {scope : Scope} {dV kV doc pm cdv ct oc : Value} {an od : Option Addr}
  {osl : Array (Option Value)} {N ps : List Str} {sp : Sp} (lk : K.lookup f = some ⟨oc, od, .func (PySem.W.fnOf name qual params body scope dV kV doc pm an cdv ct), osl⟩) (hcd : PySem.W.codeIn K cdv qual = true) (S : FnScope N ps scope)
  (len : ∀ vs H Q E, sp vs H Q E -> vs.length = ps.length)
  (hbody : ∀ (A : Around) (outer : List Env) (s : Shared) (H : Hp) (vs : List V) (Q : VK) (E : XK), Room k (A.deeper (envOfC qual scope s.heap.objs.size f cdv)) -> sp vs H Q E ->
   ∃ t, PSs (cxOf CX P w K mg base N qual scope f cdv A outer s H E) body t /\ t { nx := fun _ H' => Q .non H', rt := Q } (start N vs) H) :
  FnOk P w K mg base CX (k + 1) f (PySem.W.fnOf name qual params body scope dV kV doc pm an cdv ct) ps sp := by
 refine ⟨len, fun A outer s H args us vs Q E hr e0 hb r hsp => ?_⟩
 have hl := len _ _ _ _ hsp
 have KX : K.In s.heap := e0.mod.kin.keeps fun b o e => (e0.bs b o e).1
 have lim : s.heap.NoLimit := e0.mod.nolimit.keeps fun b o e => (e0.bs b o e).1
 have hkind : ∀ y ∈ ps.zip us, scope.names.lookup y.1 = some .local \/ (scope.names.lookup y.1 = some .cell /\ ((cellsFrom (s.heap.objs.size + 1) scope.names []).lookup y.1).isSome = true) := fun ⟨n, v⟩ hy => by
  rcases S.par n (List.of_mem_zip hy).1 with q | q
  ·exact .inl q
  ·exact .inr ⟨q, PySem.W.cellsFrom_some _ _ _ (.inl q)⟩
 refine codeAny_call_function hr.depth (KX _ _ lk) rfl S.co S.gen rfl (PySem.W.codeRec_of KX hcd) (hb _ _ _ _ ?_)
 refine wpAny_newFunctionEnv_cells S.kind hkind fun env he s1 x => ?_
 subst he
 refine ⟨lim.keeps x.toInCall.keep, codeAny_func ?_⟩
 obtain ⟨t, ht, hq⟩ := hbody A outer s H vs Q E (hr.deeper _) hsp
 have I : Inv (cxOf CX P w K mg base N qual scope f cdv A outer s H E) [] (start N vs) H s1 := inv_start S hr.hd e0 hl r x
 refine wpAny_mono (ht [] s1 (start N vs) H _ I hq) (fun fl s' hs => ?_) fun e s' hs => hs
 have fin : ∀ {σ' : St} {H' : Hp} {v : V} {u : Value}, Inv (cxOf CX P w K mg base N qual scope f cdv A outer s H E) [] σ' H' s' -> RelV v u -> Q v H' -> CE outer P w H s Q u s' :=
  fun {σ' H' v u} J rv q => ⟨v, H', J.os, J.bare, J.base, J.hok, rv, q⟩
 cases fl with
 | ret u =>
  obtain ⟨v, σ', H', J, rv, q⟩ := hs
  exact fin J rv q
 | next =>
  obtain ⟨σ', H', J, q⟩ := hs
  exact fin (v := V.non) (u := Value.none) J rfl q
 | brk =>
  obtain ⟨_, _, _, q⟩ := hs
  exact False.elim q
 | cont =>
  obtain ⟨_, _, _, q⟩ := hs
  exact False.elim q
end L2
namespace L2
open PySem PySem.Spec PyProof.Rows
section
variable {X : Cx} {x : Str} {p pos : Pos} {e : Expr} {es : List Expr} {t : TA} {id T : String} {r : List V -> Hp -> VK -> Prop}
def tCB (r : List V -> Hp -> VK -> Prop) (t : TA) : TE := fun σ H Q => t σ H fun vs H1 => r vs H1 Q
theorem pe_callB (hc : CallR X (.builtin id) r) (hg : Gl X x) (hm : X.mg x = none) (hv : bootBuiltins x = some (.builtin id)) (ha : PA X (e :: es) t) (hn : x ≠ "__name__" := by decide) (hdb : (x == ("__debug__" : Str)) = false := by decide)
  (he : starEach (e :: es) X.env = (false, eval e X.env) :: starEach es X.env := by rfl) (hpl : (backTo pos (starEach es X.env)).any (·.1) = false := by rfl) : PE X (.Call (.Name x p) (e :: es) [] pos) (tCB r t) := by
 intro pins s σ H Q I h
 refine wpAny_Call_Name_kw (ld_blt I hg hm hv ?_ hn hdb)
 exact PyProof.Rows.callWith_builtin1 (thn (ha pos pins s σ H _ I h) fun us s1 ⟨vs, H1, I1, r1, q1⟩ => hc pins s1 σ H1 vs us Q I1 r1 q1) he hpl
theorem pe_callTy (hc : CallR X (.type T) r) (hg : Gl X x) (hm : X.mg x = none) (hv : bootBuiltins x = some (.type T)) (ha : PA X (e :: es) t) (hn : x ≠ "__name__" := by decide) (hdb : (x == ("__debug__" : Str)) = false := by decide)
  (he : starEach (e :: es) X.env = (false, eval e X.env) :: starEach es X.env := by rfl) (hpl : (backTo pos (starEach es X.env)).any (·.1) = false := by rfl) : PE X (.Call (.Name x p) (e :: es) [] pos) (tCB r t) := by
 intro pins s σ H Q I h
 refine wpAny_Call_Name_kw (ld_blt I hg hm hv ?_ hn hdb)
 exact PyProof.Rows.callWith_type1 (thn (ha pos pins s σ H _ I h) fun us s1 ⟨vs, H1, I1, r1, q1⟩ => hc pins s1 σ H1 vs us Q I1 r1 q1) he hpl
end
end L2
namespace HT
open PySem PyProof.Rows
def lexLt : List Int -> List Int -> Bool
 | [], [] => false
 | [], _ :: _ => true
 | _ :: _, [] => false
 | x :: xs, y :: ys => if x = y then lexLt xs ys else decide (x < y)
theorem lexLt_cons (x y : Int) (xs ys : List Int) : lexLt (x :: xs) (y :: ys) = if x = y then lexLt xs ys else decide (x < y) := rfl
theorem lexLt_nil_nil : lexLt [] [] = false := rfl
theorem lexLt_nil_cons (y : Int) (ys : List Int) : lexLt [] (y :: ys) = true := rfl
theorem lexLt_cons_nil (x : Int) (xs : List Int) : lexLt (x :: xs) [] = false := rfl
theorem eqAt_int (A : Around) (s : Shared) (a : Int) (t : Tok) (c : Int) (u : Tok) : ∃ e, SeqAt.EqAt A s (.int a t) (.int c u) e /\ (e = true ↔ a = c) :=
 ⟨(a == c), SeqAt.EqAt.int_int a t c u, by simp⟩
theorem rcLt_int (A : Around) (s : Shared) (a : Int) (t : Tok) (c : Int) (u : Tok) (prog : Program) (w : World) (E : Value -> Shared -> Prop) (Q : Value -> Shared -> Prop) (h : Q (.bool (decide (a < c))) s) :
  wpAny (model prog w) A (richCompare .Lt (.int a t) (.int c u)) Q E s :=
 (PyProof.Rows.lt_int h : wpAny (model prog w) A (compareOp .Lt (.int a t) (.int c u)) Q E s)
section
open PySem.SeqAt
open PySem.AutoSeq1 (wpAny_loadPart')
open PySem.MeetsSeq PySem.MeetsSeq2 PySem.MeetsSeq3
theorem tuple_lt_ints (l b : Addr) (items items2 : Array Value) (n n2 : Nat) (dd dd2 : Option Addr) (sl sl2 : Array (Option Value)) (ns ms : List Int) (hi : IntsAre items.toList ns) (hj : IntsAre items2.toList ms) :
  Meets (Builtin.«tuple.__lt__» ⟨[.ref l, .ref b], []⟩)
   (fun _ R s => s.heap.get? l = some { cls := .type "tuple", dict := dd, data := .seq items n, slots := sl } /\ s.heap.get? b = some { cls := .type "tuple", dict := dd2, data := .seq items2 n2, slots := sl2 } /\
    R (.ok (.ret (.bool (lexLt ns ms)))) s) :=
 .of_wp fun prog w A R s h => by
  obtain ⟨hp, g, d, tk, os⟩ := s; obtain ⟨hl, hb, h⟩ := h
  have f2 := AutoSeq1.sub_tuple_tuple
  have z1 : items.size = ns.length := by rw [<- hi.length]; simp
  have z2 : items2.size = ms.length := by rw [<- hj.length]; simp
  wp_walk using wpAny_loadPart' hl, wpAny_loadPart' hb, wpAny_forIn_list _ (fun rest b s' => b.1 = none /\ s' = ⟨hp, g, d, tk, os⟩ /\ ∃ (vs ws : List Value) (ns' ms' : List Int), rest = vs.zip ws /\
   IntsAre vs ns' /\ IntsAre ws ms' /\ ns'.length + items2.size = ms'.length + items.size /\ R (.ok (.ret (.bool (lexLt ns' ms')))) ⟨hp, g, d, tk, os⟩) _
  case turn =>
   rintro ⟨y, x⟩ rest b s' ⟨hb', rfl, vs, ws, ns', ms', hz, hvi, hwi, hlen, hR⟩
   cases hvi with
   | nil => rw [List.zip_nil_left] at hz; cases hz
   | cons a t hvi' =>
    cases hwi with
    | nil => rw [List.zip_nil_right] at hz; cases hz
    | cons c u hwi' =>
     rw [List.zip_cons_cons] at hz
     injection hz with hyx hrest
     injection hyx with hy hx
     subst hy hx
     rw [lexLt_cons] at hR
     simp only [List.length_cons] at hlen
     obtain ⟨e, he, hiff⟩ := eqAt_int A.in1 ⟨hp, g, d, tk, os⟩ a t c u
     refine wpAny_bind (he prog w _ _ ?_)
     cases e with
     | true =>
      rw [if_pos (hiff.mp rfl)] at hR
      wp_walk
      exact ⟨rfl, rfl, _, _, _, _, hrest, hvi', hwi', by omega, hR⟩
     | false =>
      rw [if_neg (fun q => absurd (hiff.mpr q) Bool.false_ne_true)] at hR
      have hri := rcLt_int A.in1 ⟨hp, g, d, tk, os⟩ a t c u prog w
      wp_walk using hri
      exact ⟨_, rfl, by simpa using hR⟩
  case fin =>
   rintro ⟨b1, b2⟩ s' ⟨hb', rfl, vs, ws, ns', ms', hz, hvi, hwi, hlen, hR⟩
   simp only at hb'
   subst hb'
   have hv : lexLt ns' ms' = decide (items.size < items2.size) := by
    cases hvi with
    | nil =>
     cases hwi with
     | nil =>
      simp only [List.length_nil] at hlen
      rw [lexLt_nil_nil]
      exact (decide_eq_false (by omega)).symm
     | cons c u hw =>
      simp only [List.length_nil, List.length_cons] at hlen
      rw [lexLt_nil_cons]
      exact (decide_eq_true (by omega)).symm
    | cons a t hv =>
     cases hwi with
     | nil =>
      simp only [List.length_nil, List.length_cons] at hlen
      rw [lexLt_cons_nil]
      exact (decide_eq_false (by omega)).symm
     | cons c u hw =>
      rw [List.zip_cons_cons] at hz
      cases hz
   rw [hv] at hR
   wp_walk
   exact ⟨_, rfl, by simpa [Builtin.Tuple.tupleCompareSizes] using hR⟩
  case h =>
   exact ⟨rfl, rfl, items.toList, items2.toList, ns, ms, rfl, hi, hj, by omega, h⟩
end
section
variable {prog : Program} {w : World} {A : Around} {E : Value -> Shared -> Prop} {s : Shared}
theorem lt_tupInts {l b : Addr} {items items2 : Array Value} {ns ms : List Int} {Q : Value -> Shared -> Prop} (hl : IsTup s.heap l items) (hb : IsTup s.heap b items2) (hi : IntsAre items.toList ns) (hj : IntsAre items2.toList ms)
  (hu : A.units < cLine) (h : Q (.bool (lexLt ns ms)) s) : wpAny (model prog w) A (compareOp .Lt (.ref l) (.ref b)) Q E s := by
 obtain ⟨⟨cls, dd, data, sl⟩, ho, hc, n, hd⟩ := id hl
 obtain ⟨⟨cls2, dd2, data2, sl2⟩, ho2, hc2, n2, hd2⟩ := id hb
 simp only at hc hd hc2 hd2
 subst hc hd hc2 hd2
 exact richCompare_meets_room (op := .Lt) ⟨_, ho, rfl⟩ ⟨_, ho2, rfl⟩ PySem.F.slot_tuple_lt PySem.F.entry_tuple_lt (PySem.F.args_tuple_lt_2 _ _) (tuple_lt_ints l b items items2 n n2 dd dd2 sl sl2 ns ms hi hj)
  ⟨ho, ho2, show Value.bool (lexLt ns ms) ≠ Value.notImplemented /\ Q (.bool (lexLt ns ms)) s from ⟨(fun x => nomatch x), h⟩⟩ hu
theorem cat_tup {t b : Addr} {vs ws : List Value} {Q : Value -> Shared -> Prop} (ht : IsTup s.heap t vs.toArray) (hb : IsTup s.heap b ws.toArray) (hv : vs ≠ [])
  (h1 : ws = [] -> Q (.ref t) s) (h2 : ws ≠ [] -> Q (.ref s.heap.objs.size) { s with heap := s.heap.push { cls := .type "tuple", data := .seq (vs ++ ws).toArray } })
  (hsz : vs.length + ws.length <= sizeLine) : wpAny (model prog w) A (binaryOp .Add (.ref t) (.ref b)) Q E s := by
 obtain ⟨⟨cls, dd, data, sl⟩, ho, hc, n, hd⟩ := id ht
 obtain ⟨⟨cls2, dd2, data2, sl2⟩, ho2, hc2, n2, hd2⟩ := id hb
 simp only at hc hd hc2 hd2
 subst hc hd hc2 hd2
 have e : vs.toArray ++ ws.toArray = (vs ++ ws).toArray := by simp
 by_cases hw : ws = []
 ·exact concat_meets ⟨_, ho, rfl⟩ ⟨_, ho2, rfl⟩ noFill_tuple_add seq_tuple_add PySem.F.slot_tuple_add PySem.F.entry_tuple_add (PySem.F.args_tuple_add_2 _ _)
   (tuple_addW1 t b vs.toArray ws.toArray n n2 dd dd2 sl sl2 (by simpa using hv) (by simp [hw])) ⟨ho, ho2, h1 hw⟩
 ·refine concat_meets ⟨_, ho, rfl⟩ ⟨_, ho2, rfl⟩ noFill_tuple_add seq_tuple_add PySem.F.slot_tuple_add PySem.F.entry_tuple_add (PySem.F.args_tuple_add_2 _ _)
   (tuple_addW2 t b vs.toArray ws.toArray n n2 dd dd2 sl sl2 (by simpa using hv) (by simpa using hw) (by rw [List.size_toArray, List.size_toArray]; exact hsz)) ⟨ho, ho2, ?_⟩
  rw [e]
  exact h2 hw
def sIx (n d : Nat) : Option Int -> Nat
 | none => d
 | some v => if v < 0 then (v + (n : Int)).toNat else min v.toNat n
theorem sIx_le (n d : Nat) (hd : d <= n) (o : Option Int) : sIx n d o <= n := by
 cases o with
 | none => exact hd
 | some v =>
  show (if v < 0 then (v + (n : Int)).toNat else min v.toNat n) <= n
  by_cases hv : v < 0
  ·rw [if_pos hv]; omega
  ·rw [if_neg hv]; exact Nat.min_le_right _ _
theorem clip_eq (v : Int) (n d : Nat) : (if v < 0 then max (v + (n : Int)) 0 else min v (n : Int)) = ((sIx n d (some v) : Nat) : Int) := by
 show (if v < 0 then max (v + (n : Int)) 0 else min v (n : Int)) = (((if v < 0 then (v + (n : Int)).toNat else min v.toNat n) : Nat) : Int)
 by_cases hv : v < 0
 ·simp only [if_pos hv]; omega
 ·simp only [if_neg hv]; omega
theorem adjust_gen (lo hi : Option Int) (n : Nat) : Builtin.Slice.sliceAdjust lo hi 1 (n : Int) = (((sIx n 0 lo : Nat) : Int), ((sIx n n hi : Nat) : Int)) := by
 have h1 : ¬ ((1 : Int) < 0) := by omega
 unfold Builtin.Slice.sliceAdjust
 simp only [h1, if_false]
 refine Prod.ext ?_ ?_
 ·cases lo with
  | none => rfl
  | some v => exact clip_eq v n 0
 ·cases hi with
  | none => rfl
  | some v => exact clip_eq v n n
theorem places_gen (i j : Nat) : Builtin.Slice.slicePlaces (i : Int) (j : Int) 1 = j - i := by
 unfold Builtin.Slice.slicePlaces
 have h1 : (1 : Int) > 0 := by omega
 simp only [h1, if_true, Int.ediv_one]
 split <;> omega
theorem slicePart_ {v : Value} {o : Option Int} {Q : Option Int -> Shared -> Prop} (p : IsPart v o) (h : Q o s) : wpAny (model prog w) A (Builtin.Slice.slicePartIndex v) Q E s := by
 cases p with
 | none => exact slicePart_none h
 | int i t => exact slicePart_int h
theorem sliceApplied_gen {sl : Addr} {vl vu : Value} {lo hi : Option Int} {n : Nat} {Q : Int × Int × Nat -> Shared -> Prop} (hs : s.heap.IsSliceOf sl vl vu .none) (pl : IsPart vl lo) (pu : IsPart vu hi)
  (h : Q (((sIx n 0 lo : Nat) : Int), 1, sIx n n hi - sIx n 0 lo) s) : wpAny (model prog w) A (Builtin.Slice.sliceApplied (.ref sl) (pure (n : Int))) Q E s := by
 obtain ⟨os, hos, hcs, hds⟩ := id hs
 unfold Builtin.Slice.sliceApplied Builtin.Slice.sliceFields
 refine wpAny_bind (wpAny_bind (wpAny_field hos hds (x := vl) rfl (wpAny_bind (wpAny_field hos hds (x := vu) rfl (wpAny_bind (wpAny_field hos hds (x := .none) rfl (wpAny_pure ?_)))))))
 refine wpAny_bind (slicePart_none ?_)
 show wpAny _ _ (if ((1 : Int) == 0) = true then _ else _) _ _ s
 rw [if_neg (by decide)]
 refine wpAny_bind (slicePart_ pl (wpAny_bind (slicePart_ pu (wpAny_bind (wpAny_pure ?_)))))
 show wpAny _ _ (match Builtin.Slice.sliceAdjust lo hi 1 (n : Int) with | (lo, hi) => pure (lo, (1 : Int), Builtin.Slice.slicePlaces lo hi 1)) _ _ s
 rw [adjust_gen lo hi n]
 show wpAny _ _ (pure (((sIx n 0 lo : Nat) : Int), (1 : Int), Builtin.Slice.slicePlaces ((sIx n 0 lo : Nat) : Int) ((sIx n n hi : Nat) : Int) 1)) _ _ s
 rw [places_gen]
 exact wpAny_pure h
theorem pick_gen (xs : Array Value) (i k : Nat) : ((List.range k).filterMap fun (m : Nat) => xs[((i : Int) + (m : Int) * 1).toNat]?).toArray = ((xs.toList.drop i).take k).toArray := by
 have e : (fun (m : Nat) => xs[((i : Int) + (m : Int) * 1).toNat]?) = fun m => xs[i + m]? := by
  funext m
  have : ((i : Int) + (m : Int) * 1).toNat = i + m := by omega
  rw [this]
 rw [e]
 have := pick_run xs i k
 rw [List.filterMap_map] at this
 have e2 : ((fun x => xs[x]?) ∘ fun x => i + x) = fun m => xs[i + m]? := rfl
 rw [e2] at this
 rw [this]
theorem getItem_tuple_cut {t sl : Addr} {items : Array Value} {vl vu : Value} {lo hi : Option Int} {Q : Value -> Shared -> Prop} (ht : IsTup s.heap t items) (hs : s.heap.IsSliceOf sl vl vu .none) (pl : IsPart vl lo) (pu : IsPart vu hi)
  (hw : ¬ (sIx items.size 0 lo = 0 /\ sIx items.size items.size hi = items.size))
  (h : Q (.ref s.heap.objs.size) { s with heap := s.heap.push { cls := .type "tuple", data := .seq ((items.toList.drop (sIx items.size 0 lo)).take (sIx items.size items.size hi - sIx items.size 0 lo)).toArray } })
  (hsz : items.size <= sizeLine) : wpAny (model prog w) A (getItem (.ref t) (.ref sl)) Q E s := by
 have htake : sizeOk (.seq ((items.toList.drop (sIx items.size 0 lo)).take (sIx items.size items.size hi - sIx items.size 0 lo)).toArray) := by
  show ((items.toList.drop (sIx items.size 0 lo)).take (sIx items.size items.size hi - sIx items.size 0 lo)).toArray.size <= sizeLine
  rw [List.size_toArray, List.length_take, List.length_drop, Array.length_toList]
  omega
 have hj : sIx items.size items.size hi <= items.size := sIx_le _ _ (Nat.le_refl _) hi
 obtain ⟨os, hos, hcs, hds⟩ := id hs
 have hTs : s.TypeIs (.ref sl) "slice" := ⟨os, hos, hcs⟩
 unfold getItem
 try with_reducible refine wpAny_holding ?_
 first | refine wpAny_bind (wpAny_pure ?_) | skip
 refine wpAny_bind (wpAny_sequenceKey ht.typeIs (by decide) ?_)
 refine wpAny_bind (wpAny_callSpecial?_slot (name := Str.ofString "__getitem__") ht.typeIs PyProof.Rows.slot_tuple_getitem
  (wpAny_call_entry PyProof.Rows.slot_tuple_getitem ht.typeIs entry_tuple_getitem ?_ (args_tuple_getitem _ _)))
 show wpAny _ _ (Builtin.Tuple.tupleItemsOf (.ref t) >>= _) _ _ s
 refine wpAny_bind (tupleItemsOf_ ht ?_)
 refine wpAny_bind (wpAny_typeOf hTs ?_)
 rw [if_pos (by decide)]
 refine wpAny_bind (sliceApplied_gen hs pl pu ?_)
 have hno : ¬ ((((sIx items.size 0 lo : Nat) : Int) == 0 && (1 : Int) == 1 && (sIx items.size items.size hi - sIx items.size 0 lo) == items.size) = true) := by
  intro q
  rw [Bool.and_eq_true, Bool.and_eq_true] at q
  have q1 : ((sIx items.size 0 lo : Nat) : Int) = 0 := eq_of_beq q.1.1
  have q2 : sIx items.size items.size hi - sIx items.size 0 lo = items.size := eq_of_beq q.2
  exact hw ⟨by omega, by omega⟩
 show wpAny _ _ (if (((sIx items.size 0 lo : Nat) : Int) == 0 && (1 : Int) == 1 && (sIx items.size items.size hi - sIx items.size 0 lo) == items.size) = true then _ else _) _ _ s
 rw [if_neg hno, pick_gen]
 first
  | exact wpAny_bind (m := Builtin.Tuple.tupleExact _) (wpAny_newObj_type (wpAny_pure ⟨_, rfl, wpAny_pure h⟩) htake)
  | exact wpAny_bind (m := Builtin.Tuple.tupleExact _) (wpAny_newObj_type (wpAny_bind (wpAny_pure (wpAny_pure ⟨_, rfl, wpAny_pure h⟩))) htake)
  | exact wpAny_bind (wpAny_bind (m := Builtin.Tuple.tupleExact _) (wpAny_newObj_type (wpAny_pure (wpAny_pure ⟨_, rfl, wpAny_pure h⟩)) htake))
  | exact wpAny_bind (wpAny_bind (m := Builtin.Tuple.tupleExact _) (wpAny_newObj_type (wpAny_pure ⟨_, rfl, wpAny_pure h⟩) htake))
end
end HT
namespace L2
open PySem PySem.Spec PyProof.Rows
abbrev TO := St -> Hp -> (Option Int -> Hp -> Prop) -> Prop
def PO (X : Cx) (e : Option Expr) (t : TO) : Prop :=
 ∀ (pins : List (Addr × Obj)) (s : Shared) (σ : St) (H : Hp) (Q : Option Int -> Hp -> Prop), Inv X pins σ H s -> t σ H Q ->
  wpAny (model X.prog X.w) X.A (evalPart e X.env) (fun u s' => ∃ o H', Inv X pins σ H' s' /\ IsPart u o /\ Q o H') X.xe s
def tNoPart : TO := fun _ H Q => Q none H
def tPart (t : TE) : TO := fun σ H Q => t σ H fun x H1 => ∃ i, x = .int i /\ Q (some i) H1
theorem intsAre_of {ns : List Int} : ∀ {us : List Value}, Vals (ns.map V.int) us -> IntsAre us ns := by
 induction ns with
 | nil => intro us r; rw [List.map_nil] at r; cases r; exact .nil
 | cons n ns ih =>
  intro us r
  rw [List.map_cons] at r
  cases r with
  | cons r1 r2 =>
   obtain ⟨t, e⟩ := r1
   subst e
   exact .cons n t (ih r2)
section
variable {X : Cx} {e : Expr} {te : TE} {lo hi : Option Expr} {tl th : TO} {pos p2 : Pos}
theorem po_none : PO X none tNoPart := by
 intro pins s σ H Q I h
 rw [evalPart_none]
 exact wpAny_pure ⟨none, H, I, .none, h⟩
theorem po_some (h : PE X e te) : PO X (some e) (tPart te) := by
 intro pins s σ H Q I hw
 rw [evalPart_some]
 refine thn (h pins s σ H _ I hw) fun u s1 ⟨x, H1, I1, r1, q1⟩ => ?_
 obtain ⟨i, rfl, q⟩ := q1
 obtain ⟨t, rfl⟩ := r1
 exact ⟨some i, H1, I1, .int i t, q⟩
def SlR (X : Cx) (r : V -> Option Int -> Option Int -> Hp -> VK -> Prop) : Prop :=
 ∀ (pins : List (Addr × Obj)) (s : Shared) (σ : St) (H : Hp) (x : V) (v vl vu : Value) (lo hi : Option Int) (sl : Addr) (Q : VK), Inv X pins σ H s -> RelV x v -> s.heap.IsSliceOf sl vl vu .none -> IsPart vl lo -> IsPart vu hi -> r x lo hi H Q ->
  ∃ T id, typeLookup (.type T) "__getitem__" = pure (some (.builtin id)) /\ s.TypeIs v T /\ wpAny (model X.prog X.w) X.A (getItem v (.ref sl)) (EP X pins σ Q) X.xe s
theorem SlR.or {r r' : V -> Option Int -> Option Int -> Hp -> VK -> Prop} (h : SlR X r) (h' : SlR X r') : SlR X (fun x lo hi H Q => r x lo hi H Q \/ r' x lo hi H Q) := by
 intro pins s σ H x v vl vu lo hi sl Q I rx hs pl pu q
 rcases q with q | q
 ·exact h pins s σ H x v vl vu lo hi sl Q I rx hs pl pu q
 ·exact h' pins s σ H x v vl vu lo hi sl Q I rx hs pl pu q
def tSl (r : V -> Option Int -> Option Int -> Hp -> VK -> Prop) (te : TE) (tl th : TO) : TE := fun σ H Q => te σ H fun x H1 => tl σ H1 fun l H2 => th σ H2 fun u H3 => r x l u H3 Q
theorem pe_slice {r : V -> Option Int -> Option Int -> Hp -> VK -> Prop} (hr : SlR X r) (he : PE X e te) (hl : PO X lo tl) (hu : PO X hi th) : PE X (.Subscript e (.Slice lo hi none p2) pos) (tSl r te tl th) := by
 intro pins s σ H Q I h
 refine Subscript_ (thn (he pins s σ H _ I h) fun v s1 ⟨x, H1, I1, r1, q1⟩ => ?_)
 refine wpAny_Slice (thn (hl pins s1 σ H1 _ I1 q1) fun vl s2 ⟨l, H2, I2, pl, q2⟩ => thn (hu pins s2 σ H2 _ I2 q2) fun vu s3 ⟨u, H3, I3, pu, q3⟩ => ?_)
 rw [evalPart_none]
 refine wpAny_pure ?_
 have I4 : Inv X pins σ H3 { s3 with heap := s3.heap.push { cls := .type "slice", data := .fields #[vl, vu, .none] } } := I3.kept (t' := s3.toks) fun b ob q => Heap.get?_push_of_some _ q
 obtain ⟨T, id, hT, ht, hg⟩ := hr pins { s3 with heap := s3.heap.push { cls := .type "slice", data := .fields #[vl, vu, .none] } } σ H3 x v vl vu l u s3.heap.objs.size Q I4 r1 (Heap.IsSliceOf.new ..) pl pu q3
 show wpAny (model X.prog X.w) X.A (subscriptTail e (.Slice lo hi none p2) v (.ref s3.heap.objs.size)) (EP X pins σ Q) X.xe { s3 with heap := s3.heap.push { cls := .type "slice", data := .fields #[vl, vu, .none] } }
 exact tail_any (ops := [.ref s3.heap.objs.size, v]) ht hT hg (by with_unfolding_all rfl)
def cutV (xs : List V) (lo hi : Option Int) : List V := (xs.drop (HT.sIx xs.length 0 lo)).take (HT.sIx xs.length xs.length hi - HT.sIx xs.length 0 lo)
theorem cutV_length (xs : List V) (lo hi : Option Int) : (cutV xs lo hi).length <= xs.length := by
 unfold cutV
 rw [List.length_take, List.length_drop]
 omega
def rSlT (K : PySem.W.Frag) : V -> Option Int -> Option Int -> Hp -> VK -> Prop := fun x lo hi H Q => ∃ a xs, x = .ref a /\ SqT K H a xs /\
 ¬ (HT.sIx xs.length 0 lo = 0 /\ HT.sIx xs.length xs.length hi = xs.length) /\ ∀ p, H p = none -> Q (.ref p) (upd H p (.tup (cutV xs lo hi)))
theorem sl_tup : SlR X (rSlT X.K) := by
 intro pins s σ H x v vl vu lo hi sl Q I rx hs pl pu h
 obtain ⟨a, xs, rfl, hx, hw, q⟩ := h
 cases rx
 obtain ⟨its, r, ht, hz⟩ := I.tuple hx
 have hlen : its.toArray.size = xs.length := by rw [List.size_toArray]; exact r.length.symm
 refine ⟨"tuple", _, PyProof.Rows.slot_tuple_getitem.lookup, ht.typeIs, ?_⟩
 refine HT.getItem_tuple_cut ht hs pl pu (by rw [hlen]; exact hw) ?_ (by rw [hlen]; exact hz)
 rw [hlen]
 refine ⟨.ref s.heap.objs.size, _, I.laid (t' := s.toks) (o := .tup (cutV xs lo hi)) (fun b ob q => Heap.get?_push_of_some _ q) (Nat.le_refl _) ?_, rfl, q _ (I.hok.fresh (Nat.le_refl _))⟩
 exact ⟨Nat.le_trans (cutV_length xs lo hi) hz, _, (r.drop (HT.sIx xs.length 0 lo)).take (HT.sIx xs.length xs.length hi - HT.sIx xs.length 0 lo), IsTup.new _ _⟩
def rLtT (K : PySem.W.Frag) : R2 := fun x y H Q => ∃ a b ns ms, x = .ref a /\ y = .ref b /\ SqT K H a (ns.map V.int) /\ SqT K H b (ms.map V.int) /\ Q (.bl (HT.lexLt ns ms)) H
theorem op_ltT (hu : X.A.units < cLine) : OpR X (compareOp .Lt) (rLtT X.K) := by
 intro pins s σ H x y v u Q I rx ry h
 obtain ⟨a, b, ns, ms, rfl, rfl, ha, hb, q⟩ := h
 cases rx
 cases ry
 obtain ⟨its, r1, p1, _⟩ := I.tuple ha
 obtain ⟨its2, r2, p2, _⟩ := I.tuple hb
 have i1 : IntsAre its.toArray.toList ns := intsAre_of r1
 have i2 : IntsAre its2.toArray.toList ms := intsAre_of r2
 exact HT.lt_tupInts p1 p2 i1 i2 hu ⟨.bl (HT.lexLt ns ms), H, I, rfl, q⟩
def rCatT (K : PySem.W.Frag) : R2 := fun x y H Q => ∃ a b xs ys, x = .ref a /\ y = .ref b /\ SqT K H a xs /\ SqT K H b ys /\ xs ≠ [] /\ xs.length + ys.length <= sizeLine /\
 (ys = [] -> Q (.ref a) H) /\ (ys ≠ [] -> ∀ p, H p = none -> Q (.ref p) (upd H p (.tup (xs ++ ys))))
theorem Vals.nil_iff {xs : List V} {us : List Value} (r : Vals xs us) : us = [] ↔ xs = [] := by
 cases r with
 | nil => simp
 | cons _ _ => simp
theorem op_catT : OpR X (binaryOp .Add) (rCatT X.K) := by
 intro pins s σ H x y v u Q I rx ry h
 obtain ⟨a, b, xs, ys, rfl, rfl, ha, hb, hx, hz, q1, q2⟩ := h
 cases rx
 cases ry
 obtain ⟨its, r1, p1, _⟩ := I.tuple ha
 obtain ⟨its2, r2, p2, _⟩ := I.tuple hb
 refine HT.cat_tup p1 p2 (fun z => hx (r1.nil_iff.mp z)) (fun z => ⟨.ref a, H, I, rfl, q1 (r2.nil_iff.mp z)⟩) (fun z => ?_) (by rw [<- r1.length, <- r2.length]; exact hz)
 refine ⟨.ref s.heap.objs.size, _, I.laid (t' := s.toks) (o := .tup (xs ++ ys)) (fun b ob q => Heap.get?_push_of_some _ q) (Nat.le_refl _) ?_, rfl, q2 (fun w => z (r2.nil_iff.mpr w)) _ (I.hok.fresh (Nat.le_refl _))⟩
 exact ⟨by rw [List.length_append]; exact hz, _, r1.append r2, IsTup.new _ _⟩
end
end L2
namespace L2
open PySem PySem.Spec PyProof.Rows
def ixN (n : Nat) (i : Int) : Option Nat := if 0 <= i then (if i < n then some i.toNat else none) else if -(n : Int) <= i then some (i + n).toNat else none
def atI {α : Type} (xs : List α) (i : Int) : Option α := (ixN xs.length i).bind fun j => xs[j]?
theorem ixN_seq {n : Nat} {i : Int} {j : Nat} (h : ixN n i = some j) : seqIndex? i n = some j /\ j < n /\ -(n : Int) <= i /\ i < n := by
 unfold ixN at h
 by_cases h0 : 0 <= i
 ·rw [if_pos h0] at h
  by_cases h1 : i < n
  ·rw [if_pos h1] at h
   have e : i.toNat = j := Option.some.inj h
   exact ⟨by rw [seqIndex_of h0 h1, e], by omega, by omega, h1⟩
  ·rw [if_neg h1] at h; cases h
 ·rw [if_neg h0] at h
  by_cases h1 : -(n : Int) <= i
  ·rw [if_pos h1] at h
   have e : (i + n).toNat = j := Option.some.inj h
   exact ⟨by rw [seqIndex_neg (by omega) h1, e], by omega, h1, by omega⟩
  ·rw [if_neg h1] at h; cases h
theorem atI_get {α : Type} {xs : List α} {i : Int} {v : α} (h : atI xs i = some v) : ∃ j, seqIndex? i xs.length = some j /\ xs[j]? = some v /\ j < xs.length /\ -(xs.length : Int) <= i /\ i < xs.length := by
 unfold atI at h
 cases e : ixN xs.length i with
 | none => rw [e] at h; cases h
 | some j =>
  rw [e] at h
  obtain ⟨h1, h2, h3, h4⟩ := ixN_seq e
  exact ⟨j, h1, h, h2, h3, h4⟩
theorem atI_nat {α : Type} {xs : List α} {j : Nat} {v : α} (h : xs[j]? = some v) : atI xs (j : Int) = some v := by
 have hj : j < xs.length := (List.getElem?_eq_some_iff.mp h).1
 have e : ixN xs.length (j : Int) = some j := by
  unfold ixN
  rw [if_pos (by omega), if_pos (by omega)]; simp
 unfold atI; rw [e]; exact h
def PlainIx (b : Expr) : Prop := ∀ o i, subscripted b false o i = operate [o, i] (getItem o i)
def IxR (X : Cx) (r : R2) : Prop :=
 ∀ (value slice : Expr) (pins : List (Addr × Obj)) (s : Shared) (σ : St) (H : Hp) (x y : V) (v u : Value) (Q : VK), Inv X pins σ H s -> RelV x v -> RelV y u -> r x y H Q ->
  subscripted slice false v u = operate [v, u] (getItem v u) -> wpAny (model X.prog X.w) X.A (subscriptTail value slice v u) (EP X pins σ Q) X.xe s
def MtR (X : Cx) (id : String) (r : V -> List V -> Hp -> VK -> Prop) : Prop :=
 ∀ (pins : List (Addr × Obj)) (s : Shared) (σ : St) (H : Hp) (x : V) (xs : List V) (v : Value) (us : List Value) (Q : VK), Inv X pins σ H s -> RelV x v -> Vals xs us -> r x xs H Q ->
  wpAny (model X.prog X.w) X.A (call (.builtin id) (v :: us)) (EP X pins σ Q) X.xe s
section
variable {X : Cx} {a b : Expr} {ta tb : TE} {pos : Pos}
theorem IxR.or {r r' : R2} (h : IxR X r) (h' : IxR X r') : IxR X (fun x y H Q => r x y H Q \/ r' x y H Q) := by
 intro value slice pins s σ H x y v u Q I rx ry q hs
 rcases q with q | q
 ·exact h value slice pins s σ H x y v u Q I rx ry q hs
 ·exact h' value slice pins s σ H x y v u Q I rx ry q hs
theorem pe_ix {r : R2} (hr : IxR X r) (ha : PE X a ta) (hb : PE X b tb) (hs : PlainIx b) : PE X (.Subscript a b pos) (tOp r ta tb) := by
 intro pins s σ H Q I h
 exact Subscript_ (binT ha hb I h fun v u s2 x y H2 I2 rx ry q => hr a b pins s2 σ H2 x y v u Q I2 rx ry q (hs _ _))
def rIxL (K : PySem.W.Frag) : R2 := fun x y H Q => ∃ p xs i v, x = .ref p /\ y = .int i /\ SqL K H p xs /\ atI xs i = some v /\ Q v H
def rIxT (K : PySem.W.Frag) : R2 := fun x y H Q => ∃ p xs i v, x = .ref p /\ y = .int i /\ SqT K H p xs /\ atI xs i = some v /\ Q v H
def rIxS : R2 := fun x y H Q => ∃ z i c, x = .str z /\ y = .int i /\ z.length <= sizeLine /\ atI z.cps.toList i = some c /\ Q (.str ⟨#[c]⟩) H
theorem ix_list : IxR X (rIxL X.K) := by
 intro value slice pins s σ H x y v u Q I rx ry h hs
 obtain ⟨p, xs, i, z, rfl, rfl, hq, he, q⟩ := h
 cases rx
 obtain ⟨t, rfl⟩ := ry
 obtain ⟨its, r, pl, hz⟩ := I.list hq
 obtain ⟨j, h1, h2, h3, h4, h5⟩ := atI_get he
 obtain ⟨w, ew, rw'⟩ := r.get h2
 have hl := r.length
 have hn := line63
 have fin : EP X pins σ Q w s := ⟨z, H, I, rw', q⟩
 by_cases h0 : 0 <= i
 ·have hj : i.toNat = j := by
   rw [seqIndex_of h0 h5] at h1
   exact Option.some.inj h1
  exact item_listR pl.isList h0 (by omega) (by rw [hj]; simpa using ew) fin hs
 ·have hj : (i + (its.toArray.size : Int)).toNat = j := by
   rw [seqIndex_neg (by omega) h4] at h1
   rw [List.size_toArray, <- hl]
   exact Option.some.inj h1
  exact subscriptTail_builtinR (x := w) pl.isList.typeIs slot_list_getitem.lookup
   (wpAny_getItem_list_neg (Q := fun r s' => r = w /\ EP X pins σ Q r s') pl.isList (by omega) (by rw [List.size_toArray] <;> omega) (by omega) (by rw [hj]; simpa using ew) ⟨rfl, fin⟩) hs
theorem ix_tup : IxR X (rIxT X.K) := by
 intro value slice pins s σ H x y v u Q I rx ry h hs
 obtain ⟨p, xs, i, z, rfl, rfl, hq, he, q⟩ := h
 cases rx
 obtain ⟨t, rfl⟩ := ry
 obtain ⟨its, r, pl, hz⟩ := I.tuple hq
 obtain ⟨j, h1, h2, h3, h4, h5⟩ := atI_get he
 obtain ⟨w, ew, rw'⟩ := r.get h2
 have hl := r.length
 have hn := line63
 have fin : EP X pins σ Q w s := ⟨z, H, I, rw', q⟩
 exact subscriptTail_builtinR (x := w) pl.typeIs slot_tuple_getitem.lookup
  (getItem_tuple (j := j) (Q := fun r s' => r = w /\ EP X pins σ Q r s') pl (by omega) (by omega) (by rw [List.size_toArray, <- hl]; exact h1) (by simpa using ew) ⟨rfl, fin⟩) hs
theorem ix_str : IxR X rIxS := by
 intro value slice pins s σ H x y v u Q I rx ry h hs
 obtain ⟨z, i, c, rfl, rfl, hz, he, q⟩ := h
 obtain ⟨t, rfl⟩ := rx
 obtain ⟨t', rfl⟩ := ry
 obtain ⟨j, h1, h2, h3, h4, h5⟩ := atI_get he
 have hl : z.cps.toList.length = z.length := by simp [Str.length]
 rw [hl] at h1 h4 h5
 have hn := line63
 exact tail_any (typeIs_str s z t) slot_str_getitem.lookup (getItem_str (c := c) (by
  have e1 : decide (i < -(2 ^ 63 : Int)) = false := decide_eq_false (by omega)
  have e2 : decide (i >= 2 ^ 63) = false := decide_eq_false (by omega)
  rw [e1, e2, Bool.or_false]) (by rw [h1]; simpa using h2) ⟨.str ⟨#[c]⟩, H, I.tok _, ⟨_, rfl⟩, q⟩) hs
def rIx (K : PySem.W.Frag) : R2 := fun x y H Q => rIxL K x y H Q \/ rIxT K x y H Q \/ rIxS x y H Q
theorem ix_seq : IxR X (rIx X.K) := ix_list.or (ix_tup.or ix_str)
theorem slice_bounds (lo hi : Option Int) (n : Nat) : (sliceBounds lo hi none n).1 = ((HT.sIx n 0 lo : Nat) : Int) /\ (sliceBounds lo hi none n).2.1 = ((HT.sIx n n hi : Nat) : Int) /\ (sliceBounds lo hi none n).2.2 = 1 := by
 refine ⟨?_, ?_, rfl⟩
 ·cases lo with
  | none => simp [sliceBounds, HT.sIx]
  | some i =>
   simp only [sliceBounds, HT.sIx, Option.getD_none, show (1 : Int) > 0 by decide, if_true]
   by_cases h : i < 0
   ·simp only [h, if_true] <;> omega
   ·simp only [h, if_false] <;> omega
 ·cases hi with
  | none => simp [sliceBounds, HT.sIx]
  | some i =>
   simp only [sliceBounds, HT.sIx, Option.getD_none, show (1 : Int) > 0 by decide, if_true]
   by_cases h : i < 0
   ·simp only [h, if_true] <;> omega
   ·simp only [h, if_false] <;> omega
theorem slicePick_cut (its : List Value) (lo hi : Option Int) : slicePick its.toArray lo hi none = ((its.drop (HT.sIx its.length 0 lo)).take (HT.sIx its.length its.length hi - HT.sIx its.length 0 lo)).toArray := by
 obtain ⟨h1, h2, h3⟩ := slice_bounds lo hi its.toArray.size
 unfold slicePick
 rw [h1, h2, h3]
 simp only [sliceRange_one, pick_run, List.size_toArray] <;> rfl
def rSlL (K : PySem.W.Frag) : V -> Option Int -> Option Int -> Hp -> VK -> Prop := fun x lo hi H Q => ∃ a xs, x = .ref a /\ SqL K H a xs /\ ∀ p, H p = none -> Q (.ref p) (upd H p (.lst (cutV xs lo hi)))
theorem sl_list : SlR X (rSlL X.K) := by
 intro pins s σ H x v vl vu lo hi sl Q I rx hs pl pu h
 obtain ⟨a, xs, rfl, hx, q⟩ := h
 cases rx
 obtain ⟨its, r, ht, hz⟩ := I.list hx
 have hlen := r.length
 refine ⟨"list", _, slot_list_getitem.lookup, ht.isList.typeIs, ?_⟩
 refine wpAny_getItem_list_slice ht.isList hs pl pu .none (by simp) ?_ (by rw [List.size_toArray] <;> omega)
 rw [slicePick_cut, <- hlen]
 refine ⟨.ref s.heap.objs.size, _, I.laid (t' := s.toks) (o := .lst (cutV xs lo hi)) (fun b ob q => Heap.get?_push_of_some _ q) (Nat.le_refl _) ?_, rfl, q _ (I.hok.fresh (Nat.le_refl _))⟩
 exact ⟨Nat.le_trans (cutV_length xs lo hi) hz, _, 0, (r.drop (HT.sIx xs.length 0 lo)).take (HT.sIx xs.length xs.length hi - HT.sIx xs.length 0 lo), Heap.get?_push_size _ rfl⟩
theorem call_len_seq : CallR X (.builtin "len") (fun xs H Q => ∃ p ys, xs = [.ref p] /\ (SqL X.K H p ys \/ SqT X.K H p ys) /\ Q (.int ys.length) H) := by
 intro pins s σ H xs us Q I r h
 obtain ⟨p, ys, rfl, hq, q⟩ := h
 obtain ⟨u, rfl, rx⟩ := vals1 r
 cases rx
 have hn := line63
 rcases hq with hq | hq
 ·obtain ⟨its, r', pl, hz⟩ := I.list hq
  have hlen := r'.length
  exact Calls.call_len_list pl.isList (by simp only [List.size_toArray] <;> omega) ⟨.int ys.length, H, I.tok _, ⟨s.toks + 1, by rw [List.size_toArray, hlen]⟩, q⟩
 ·obtain ⟨its, r', pl, hz⟩ := I.tuple hq
  have hlen := r'.length
  exact len_tuple pl (by simp only [List.size_toArray] <;> omega) ⟨.int ys.length, H, I.tok _, ⟨s.toks + 1, by rw [List.size_toArray, hlen]⟩, q⟩
theorem call_len_str : CallR X (.builtin "len") (fun xs H Q => ∃ z, xs = [.str z] /\ z.length <= sizeLine /\ Q (.int z.length) H) := by
 intro pins s σ H xs us Q I r h
 obtain ⟨z, rfl, hz, q⟩ := h
 obtain ⟨u, rfl, t, rfl⟩ := vals1 r
 have hn := line63
 exact len_str (by omega) ⟨.int z.length, H, I.tok _, ⟨_, rfl⟩, q⟩
theorem CallR.or {f : Value} {r r' : List V -> Hp -> VK -> Prop} (h : CallR X f r) (h' : CallR X f r') : CallR X f (fun xs H Q => r xs H Q \/ r' xs H Q) := by
 intro pins s σ H xs us Q I rs q
 rcases q with q | q
 ·exact h pins s σ H xs us Q I rs q
 ·exact h' pins s σ H xs us Q I rs q
theorem call_tuple_of : CallR X (.type "tuple") (fun xs H Q => ∃ p ys, xs = [.ref p] /\ ((SqL X.K H p ys /\ ∀ l, H l = none -> Q (.ref l) (upd H l (.tup ys))) \/ (SqT X.K H p ys /\ Q (.ref p) H))) := by
 intro pins s σ H xs us Q I r h
 obtain ⟨p, ys, rfl, h⟩ := h
 obtain ⟨u, rfl, rx⟩ := vals1 r
 cases rx
 rcases h with ⟨hq, q⟩ | ⟨hq, q⟩
 ·obtain ⟨its, r', pl, hz⟩ := I.list hq
  have hlen := r'.length
  refine call_tuple_list pl.isList (fun h' kp => ?_) (by simp only [List.size_toArray] <;> omega)
  have I1 : Inv X pins σ H { s with heap := h' } := I.kept (t' := s.toks) kp
  have I2 : Inv X pins σ (upd H h'.objs.size (.tup ys)) { s with heap := h'.push { cls := .type "tuple", data := .seq its.toArray } } :=
   I1.laid (t' := s.toks) (fun b o e => Heap.get?_push_of_some _ e) (Nat.le_refl _) (show ObjOk X.prog X.w _ _ _ (.tup ys) from ⟨hz, its, r', IsTup.new _ _⟩)
  exact ⟨.ref h'.objs.size, _, I2, rfl, q _ (I1.hok.fresh (Nat.le_refl _))⟩
 ·obtain ⟨its, r', pl, hz⟩ := I.tuple hq
  exact call_tuple_same pl ⟨.ref p, H, I, rfl, q⟩
def tyV (K : PySem.W.Frag) (T : String) (x : V) (H : Hp) : Prop := match x with
 | .str _ => T = "str"
 | .int _ => T = "int"
 | .ref p => (T = "list" /\ ∃ xs, SqL K H p xs) \/ (T = "tuple" /\ ∃ o, K.lookup p = some o /\ o.cls = .type "tuple" /\ o.dict = none) \/
   (T = "dict" /\ ((∃ kvs, H p = some (.dK kvs)) \/ ∃ kvs, H p = some (.dT kvs))) \/ (T = "set" /\ ∃ S n, H p = some (.set S n))
 | _ => False
theorem tyV_is {pins : List (Addr × Obj)} {σ : St} {H : Hp} {s : Shared} {T : String} {x : V} {v : Value} (I : Inv X pins σ H s) (r : RelV x v) (ty : tyV X.K T x H) :
  s.TypeIs v T /\ ∀ a, v = .ref a -> ∃ ob, s.heap.get? a = some ob /\ ob.dict = none := by
 cases x with
 | str z =>
  obtain ⟨t, rfl⟩ := r
  cases (show T = "str" from ty)
  exact ⟨typeIs_str s z t, fun _ e => nomatch e⟩
 | int i =>
  obtain ⟨t, rfl⟩ := r
  cases (show T = "int" from ty)
  exact ⟨typeIs_int s i t, fun _ e => nomatch e⟩
 | ref p =>
  cases r
  rcases ty with ⟨rfl, xs, hq⟩ | ⟨rfl, o, hk, hc, hd⟩ | ⟨rfl, hk⟩ | ⟨rfl, S, n, hk⟩
  ·obtain ⟨its, _, pl, _⟩ := I.list hq
   refine ⟨pl.isList.typeIs, fun a e => ?_⟩
   cases e
   obtain ⟨o, n, e, c, hd, _⟩ := pl
   exact ⟨o, e, hd⟩
  ·refine ⟨⟨o, I.kIn p o hk, hc⟩, fun a e => ?_⟩
   cases e
   exact ⟨o, I.kIn _ o hk, hd⟩
  ·have z : ∃ o, s.heap.get? p = some o /\ o.ExactDict := by
    rcases hk with ⟨kvs, hk⟩ | ⟨kvs, hk⟩
    ·obtain ⟨_, _, _, _, o, _, _, e, ex, _⟩ := I.hok p _ hk
     exact ⟨o, e, ex⟩
    ·obtain ⟨_, _, _, _, o, _, _, e, ex, _⟩ := I.hok p _ hk
     exact ⟨o, e, ex⟩
   obtain ⟨o, e, ex⟩ := z
   refine ⟨⟨o, e, ex.1⟩, fun a e2 => ?_⟩
   cases e2
   exact ⟨o, e, ex.2.1⟩
  ·obtain ⟨o, _, _, _, e, ex, _⟩ := I.hok p _ hk
   refine ⟨⟨o, e, ex.1⟩, fun a e2 => ?_⟩
   cases e2
   exact ⟨o, e, ex.2.1⟩
 | _ => exact False.elim ty
def tBM (K : PySem.W.Frag) (T : String) (r : V -> List V -> Hp -> VK -> Prop) (to : TE) (t : TA) : TE := fun σ H Q => to σ H fun x H1 => tyV K T x H1 /\ t σ H1 fun xs H2 => r x xs H2 Q
variable {o e : Expr} {es : List Expr} {to : TE} {t : TA} {name : Str} {apos cpos : Pos} {T id : String} {r : V -> List V -> Hp -> VK -> Prop}
theorem pe_bm (pa : PlainAttrs T) (slot : Slot T name id) (hty : typeOf (.builtin id) = pure (.type "method_descriptor")) (hm : MtR X id r) (ho : PE X o to) (ha : PA X (e :: es) t)
  (hbase : attributeBase o name X.env (eval o X.env) = eval o X.env := by rfl)
  (hfew : ((backTo cpos (starEach (e :: es) X.env)).all (fun x => !x.1) && (backToKw cpos (keywordEach [] X.env)).all (fun x => x.1.isSome)
   && decide ((e :: es).length + ([] : List Keyword).length + (if ([] : List Keyword).isEmpty then 0 else 1) < 30)) = true := by rfl)
  (hline : (apos.endLine == cpos.line) = true := by rfl) (hs : starEach (e :: es) X.env = (false, eval e X.env) :: starEach es X.env := by rfl) (hplain : (backTo cpos (starEach es X.env)).any (·.1) = false := by rfl) :
  PE X (.Call (.Attribute o name apos) (e :: es) [] cpos) (tBM X.K T r to t) := by
 intro pins s σ H Q I h
 refine wpAny_Call_method_late hbase hfew hline rfl (thn (ho pins s σ H _ I h) fun v s1 ⟨x, H1, I1, r1, ty, q1⟩ => ?_)
 obtain ⟨h1, h2⟩ := tyV_is I1 r1 ty
 refine ⟨T, id, pa, slot, hty, h1, h2, ?_⟩
 have hA := ha cpos pins s1 σ H1 _ I1 q1
 rw [hs] at hA ⊢
 refine Calls.callWith_builtin (by show (false || (backTo cpos (starEach es X.env)).any (·.1)) = false; rw [hplain] <;> rfl) (Calls.evalArgs_plain ?_)
 exact thn hA fun us s2 ⟨vs, H2, I2, r2, q2⟩ => hm pins s2 σ H2 x vs v us Q I2 r1 r2 q2
end
end L2
namespace L2
open PySem PySem.Spec PyProof.Rows
def MtM (X : Cx) (id : String) (r : V -> List V -> Hp -> VK -> Prop) : Prop :=
 ∀ (pins : List (Addr × Obj)) (s : Shared) (σ : St) (H : Hp) (x : V) (xs : List V) (v : Value) (us : List Value) (Q : VK), Inv X pins σ H s -> RelV x v -> Vals xs us -> r x xs H Q ->
  wpAny (model X.prog X.w) X.A (call (.builtin id) (v :: us)) (EP X pins σ Q) X.xe s
theorem Vals.one : ∀ {x : V} {us : List Value}, Vals [x] us -> ∃ u, us = [u] /\ RelV x u
 | _, _, .cons r .nil => ⟨_, rfl, r⟩
section
variable {X : Cx} {pins : List (Addr × Obj)} {σ : St} {H : Hp} {s : Shared} {l b : Addr} {xs ys zs : List V}
theorem Inv.lset {its its' : List Value} {n : Nat} {f : Array Value -> Array Value} {t' : Nat} (I : Inv X pins σ H s) (hH : H l = some (.lst xs))
  (e : s.heap.get? l = some { cls := .type "list", data := .seq its.toArray n }) (hf : f its.toArray = its'.toArray) (hv : Vals ys its') (hz : ys.length <= sizeLine) :
  Inv X pins σ (upd H l (.lst ys)) { s with heap := s.heap.update l (Obj.mapSeq f), toks := t' } := by
 have q := PySem.IsL.update e f
 rw [hf] at q
 refine I.write (x := l) (e := l) (by rw [hH]; exact trivial) (.inl rfl) (fun b' u hb hu => (Heap.get?_update_other s.heap (Obj.mapSeq f) (Ne.symm hb)).trans hu) ⟨_, q⟩ ?_
 exact ⟨hz, its', _, hv, q⟩
theorem Inv.lnew {its : List Value} {t' : Nat} (I : Inv X pins σ H s) (hv : Vals ys its) (hz : ys.length <= sizeLine) :
  Inv X pins σ (upd H s.heap.objs.size (.lst ys)) { s with heap := s.heap.push { cls := .type "list", data := .seq its.toArray }, toks := t' } :=
 I.laid (fun _ _ q => Heap.get?_push_of_some _ q) (Nat.le_refl _) ⟨hz, its, 0, hv, Heap.get?_push_size _ rfl⟩
theorem Inv.fresh (I : Inv X pins σ H s) : H s.heap.objs.size = none := I.hok.fresh (Nat.le_refl _)
theorem Inv.lstM (I : Inv X pins σ H s) (hH : H l = some (.lst xs)) : xs.length <= sizeLine /\ ∃ (its : List Value) (n : Nat), Vals xs its /\ xs.length = its.length /\ s.heap.get? l = some { cls := .type "list", data := .seq its.toArray n } := by
 obtain ⟨z, its, n, r, e⟩ := I.hok l _ hH
 exact ⟨z, its, n, r, r.length, e⟩
end
section
variable {X : Cx}
def rAppend : V -> List V -> Hp -> VK -> Prop := fun x vs H Q => ∃ l xs y, x = .ref l /\ vs = [y] /\ H l = some (.lst xs) /\ xs.length < sizeLine /\ Q .non (upd H l (.lst (xs ++ [y])))
theorem mt_append : MtM X "list.append" rAppend := by
 intro pins s σ H x vs v us Q I rx rv h
 obtain ⟨l, xs, y, rfl, rfl, hH, hz, q⟩ := h
 cases rx
 obtain ⟨u, rfl, ru⟩ := rv.one
 obtain ⟨z, its, n, r, hl, e⟩ := I.lstM hH
 refine call_meets F.slot_list_append ⟨_, e, rfl⟩ F.entry_list_append (F.args_list_append_2 _ _) (PySem.list_append l its.toArray n u (by rw [List.size_toArray]; omega)) ⟨e, ?_⟩
 refine ⟨.non, _, I.lset (its' := its ++ [u]) hH e (by simp) (r.append (.cons ru .nil)) ?_, rfl, q⟩
 rw [List.length_append, List.length_singleton]
 omega
end
end L2
namespace Att
open PySem PySem.W PySem.Calls PyProof.Rows
theorem ints_of_wellAll {P : Params} {h : Heap} : ∀ (ns : List Int) (vs : List Value), WellAll P h vs (ns.map WData.int) -> IntsAre vs ns := by
 intro ns
 induction ns with
 | nil =>
  intro vs w
  rw [List.map_nil] at w
  cases w
  exact .nil
 | cons n ns ih =>
  intro vs w
  rw [List.map_cons] at w
  cases w with
  | cons a b =>
   cases a
   exact .cons _ _ (ih _ b)
theorem script_of {l : OpenLaw} {n : Nat} (hn : l.most = some n) {P : Params} {h : Heap} {args : List WData} {vals : List Value}
  (hpre : l.row.toRowW.claim.pre args = true) (hwl : WellAll P h vals args) :
  ∃ a vs ns, vals = [Value.ref a] /\ args = [WData.list (ns.map WData.int)] /\ h.get? a = some { cls := .type "list", data := .seq vs.toArray } /\ IntsAre vs ns /\ ns.length <= n := by
 have hsh : WShape.hasAll [] args [.list .int] = true := (pre_splitW hpre).1
 have hc : l.pre.holds [] { args := args } = true := (pre_splitW hpre).2
 obtain ⟨d, r, rfl, h1, h2⟩ := hasAllW_cons hsh
 obtain rfl := hasAllW_nil h2
 obtain ⟨xs, rfl, h3⟩ := hasW_list h1
 obtain ⟨ns, rfl⟩ := items_int h3
 have hlen : ns.length <= n := by
  unfold OpenLaw.pre at hc
  have h4 : (WTm.not (.lt (.lit (.int (n : Int))) (.len (.arg 0)))).holds [] { args := [.list (ns.map .int)] } = true := by
   have h4 := (holds_andW hc).1
   rw [hn] at h4
   exact h4
  have h5 := condW_of h4 (w_not (w_lt w_lit (w_len_list (w_arg rfl))))
  rw [List.length_map] at h5
  refine Nat.le_of_not_lt fun q => ?_
  have q' : (n : Int) < ((ns.length : Nat) : Int) := by omega
  first
   | (rw [decide_eq_true q'] at h5; exact absurd h5 (by decide))
   | (simp at h5; omega)
 cases hwl with
 | cons w1 w2 =>
  cases w2
  cases w1 with
  | list ho hall => exact ⟨_, _, ns, rfl, rfl, ho, ints_of_wellAll ns _ hall, hlen⟩
theorem post_true (l : OpenLaw) (args : List WData) : l.row.toRowW.claim.post args (.bool true) args = true :=
 postW_of (r := l.row.toRowW) (X := (true == true))
  (show WShape.has [] (.bool true) .bool = true by first | rfl | decide | simp [WShape.has, WShape.arms, WShape.armsAll])
  (show (WTm.eq .res (.lit (.bool true))).value [] { args := args, res := some (.bool true), after := args } = some (.bool (true == true)) from w_eq_bool (w_res rfl) w_lit) rfl
theorem attach_call {l : OpenLaw} {n : Nat} {q : Program} {loose : List Str} {XP : (Str -> Option Value) -> Heap -> Prop} {YP : World -> Heap -> Prop} {d : DefRec}
  (hn : l.most = some n) (hdf : d.params.defaults = [])
  (call : ∀ (w : World) (s₀ s₁ : Shared) (mg mb : Str -> Option Value) (fa : Addr) (o : Obj) (pm cd doc : Value) (a : Addr) (vs : List Value) (ns : List Int),
   Ground q loose [] XP w s₀ mg mb s₁.heap -> YP w s₁.heap ->
   s₁.heap.get? fa = some o -> o.data = .func (docDef d.name d.params d.body d.scope pm cd doc) -> s₁.heap.CodeRec cd d.name -> mg d.name = some (.ref fa) ->
   s₁.heap.get? a = some { cls := .type "list", data := .seq vs.toArray } -> IntsAre vs ns -> ns.length <= n -> s₁.gens = #[] ->
   codeAny (model l.prog w) callerA (.call (.ref fa) ⟨[.ref a], []⟩) (fun r s' => r = .ok (.ret (.bool true)) /\ OldK s₁.heap s'.heap /\ s'.os = s₁.os /\ AllBare s'.gens) s₁) :
  WalkO q loose XP YP l.row.toRowW d [] (fun f vs => PySem.call f vs) := by
 intro w s₀ s₁ mg mb G Y fa o pm cd doc dV kV ho hd hcd hD hmg hg args vals as hpre hlay hrd hwl hlo
 obtain rfl : dV = .none := Dflts.none hD hdf
 obtain rfl : kV = .none := Dflts.noKw hD
 obtain ⟨a, vs, ns, rfl, rfl, hobj, hints, hlen⟩ := script_of hn hpre hwl
 refine enter_call (codeAny_mono (call w s₀ s₁ mg mb fa o pm cd doc a vs ns G Y ho (fd_plain hd) hcd hmg hobj hints hlen hg) fun r s' hq => ?_)
 obtain ⟨rfl, h2, h3, h4⟩ := hq
 exact ⟨.inl ⟨.bool true, .bool true, [], rfl, fun _ => rfl, .bool true, post_true l _, fun _ => ⟨List.Pairwise.nil, fun _ hm => (nomatch hm)⟩⟩, h2, h3, h4⟩
end Att
namespace L2
open PySem PySem.Spec PyProof.Rows
theorem vals_ints : ∀ {vs : List Value} {ns : List Int}, IntsAre vs ns -> Vals (ns.map V.int) vs
 | _, _, .nil => .nil
 | _, _, .cons n t h => .cons ⟨t, rfl⟩ (vals_ints h)
def Only (H : Hp) : Prop := ∀ b, H b = none \/ ∃ o xs, H b = some (.frz o (.lst xs))
theorem law_call {P : Program} {w : World} {K : PySem.W.Frag} {mg mb : Str -> Option Value} {CX : CXT} {k : Nat} {fa a : Addr} {fd : FuncData} {x : Str} {sp : Sp} {s₁ : Shared} {vs : List Value} {ns : List Int}
  (KX : K.In s₁.heap) (hns : s₁.heap.Ns mainGlobals mg) (hb : s₁.heap.Ns builtinsNs mb) (hbb : ∀ x : Str, x ≠ "__name__" -> mb x = bootBuiltins x) (hlim : s₁.heap.NoLimit) (hg : s₁.gens = #[])
  (ha : s₁.heap.get? a = some { cls := .type "list", data := .seq vs.toArray }) (hi : IntsAre vs ns) (hl : ns.length <= sizeLine) (hr : Room k callerA)
  (F : ∀ base : Heap, K.In base -> base.Ns mainGlobals mg -> FnOk P w K mg base CX k fa fd [x] sp) (hbind : ∀ (s : Shared) (u : Value), BindsTo s fd ⟨[u], []⟩ [(x, u)])
  (hsp : ∀ H : Hp, Only H -> SqL K H a (ns.map V.int) -> sp [.ref a] H (fun v _ => v = .bl true) fun _ _ _ => False)
  (hCX : ∀ H e s', CX [] H s₁ (fun _ _ _ => False) e s' -> False) :
  codeAny (model P w) callerA (.call (.ref fa) ⟨[.ref a], []⟩) (fun r s' => r = .ok (.ret (.bool true)) /\ OldK s₁.heap s'.heap /\ s'.os = s₁.os /\ AllBare s'.gens) s₁ := by
 have rv := vals_ints hi
 have lenV := hi.length
 have core : ∀ H : Hp, Only H -> SqL K H a (ns.map V.int) -> HOk P w H s₁.heap -> (∀ b, H b ≠ none -> b = a) -> (H a ≠ none -> K.lookup a = none) ->
   codeAny (model P w) callerA (.call (.ref fa) ⟨[.ref a], []⟩) (fun r s' => r = .ok (.ret (.bool true)) /\ OldK s₁.heap s'.heap /\ s'.os = s₁.os /\ AllBare s'.gens) s₁ := by
  intro H hO hS hok hA hK
  have base_of : ∀ {b : Addr} {o : Obj}, s₁.heap.get? b = some o -> H b = none -> (hidT s₁.heap H).get? b = some o := fun e n => hidT_get e n
  have noA : ∀ {b : Addr} {o : Obj} {es : Array DictEntry} {ep : Nat}, s₁.heap.get? b = some o -> o.data = .dict es ep -> H b = none := fun {b o es ep} e d => by
   cases q : H b with
   | none => rfl
   | some u =>
    have e' : b = a := hA b (by rw [q]; simp)
    subst e'
    rw [ha] at e; cases e
    have d' : Data.seq vs.toArray _ = Data.dict es ep := d
    cases d'
  have nsK : ∀ {b : Addr} {m : Str -> Option Value}, s₁.heap.Ns b m -> (hidT s₁.heap H).Ns b m := fun {b m} ⟨o, es, ep, e, d, r⟩ => ⟨o, es, ep, base_of e (noA e d), d, r⟩
  have hKb : K.In (hidT s₁.heap H) := fun b o e => base_of (KX b o e) (by
   cases q : H b with
   | none => rfl
   | some u =>
    have e' : b = a := hA b (by rw [q]; simp)
    subst e'
    rw [hK (by rw [q]; simp)] at e; cases e)
  have hM : Mod K mg (hidT s₁.heap H) := ⟨hKb, nsK hns, ⟨mb, nsK hb, hbb⟩, let ⟨mc, h1, h2⟩ := hlim; ⟨mc, nsK h1, h2⟩⟩
  have e0 : Env0 P w K mg (hidT s₁.heap H) callerA [] s₁ H := ⟨rfl, hM, fun b o e => of_hidT e, Nat.le_of_eq (hidT_size _ _), trivial, fun b hb => absurd (show b ∈ ([] : List Addr) from hb) (by simp), hok, .of_eq hg⟩
  refine codeAny_mono ((F _ hKb (nsK hns)).run callerA [] s₁ H ⟨[.ref a], []⟩ [.ref a] [.ref a] _ _ hr e0 (hbind s₁ (.ref a)) (.cons rfl .nil) (hsp H hO hS)) fun r s' h => ?_
  cases r with
  | error e => exact (hCX H e s' h).elim
  | ok fl =>
   cases fl with
   | next => exact False.elim h
   | brk => exact False.elim h
   | cont => exact False.elim h
   | ret u =>
    obtain ⟨v, H', os, bare, un, hok', r', q⟩ := h
    have q' : v = .bl true := q
    subst q'
    obtain rfl : u = Value.bool true := r'
    refine ⟨rfl, OldK.of_keep fun b o e => ?_, os, bare⟩
    cases q : H b with
    | none => exact un.keep b o e q (by intro z; exact absurd (show b ∈ ([] : List Addr) from z) (by simp)) (by simp)
    | some u =>
     rcases hO b with z | ⟨ob, xs, z⟩
     ·rw [q] at z; cases z
     ·have z2 := un.frzs b ob _ z
      obtain ⟨e1, _⟩ := hok b _ z
      obtain ⟨e2, _⟩ := hok' b _ z2
      rw [e] at e1; cases e1
      exact e2
 cases hk : K.lookup a with
 | some o =>
  have e := KX a o hk
  rw [ha] at e
  cases e
  refine core (fun _ => none) (fun _ => .inl rfl) (.inr ⟨_, vs.toArray, _, hk, rfl, rfl, rfl, by rw [List.size_toArray, lenV]; exact hl, by simpa using rv⟩) (fun b u z => by have z' : (none : Option HO) = some u := z; cases z') (fun b z => absurd rfl z) fun z => absurd rfl z
 | none =>
  refine core (fun b => if b = a then some (.frz { cls := .type "list", data := .seq vs.toArray } (.lst (ns.map V.int))) else none) (fun b => ?_) (.inl (.inr ⟨{ cls := .type "list", data := .seq vs.toArray }, if_pos rfl⟩)) (fun b u z => ?_) (fun b z => ?_) fun _ => hk
  ·by_cases hb : b = a
   ·exact .inr ⟨_, _, if_pos hb⟩
   ·exact .inl (if_neg hb)
  ·by_cases hb : b = a
   ·have z' := (if_pos hb).symm.trans z
    cases z'
    subst hb
    exact ⟨ha, by rw [List.length_map]; exact hl, vs, _, rv, ha⟩
   ·have z' := (if_neg hb).symm.trans z
    cases z'
  ·by_cases hb : b = a
   ·exact hb
   ·exact absurd (if_neg hb) z
end L2
namespace L2
open PySem PySem.Spec PyProof.Rows
theorem walk_of {l : PySem.W.OpenLaw} {n k : Nat} {q : Program} {loose : List Str} {XP : (Str -> Option Value) -> Heap -> Prop} {YP : World -> Heap -> Prop} {d : DefRec} {K : Params -> PySem.W.Frag} {CX : World -> CXT} {sp : World -> Sp} {x : Str}
  (hn : l.most = some n) (hn2 : n <= sizeLine) (hdf : d.params.defaults = []) (hr : Room k callerA)
  (hY : ∀ (w : World) (h : Heap), YP w h -> (K w.params).In h)
  (F : ∀ (w : World) (mg : Str -> Option Value) (fa : Addr) (h : Heap), (K w.params).In h -> h.Ns mainGlobals mg -> mg d.name = some (.ref fa) ->
   ∃ fd : FuncData, (∀ (s : Shared) (u : Value), BindsTo s fd ⟨[u], []⟩ [(x, u)]) /\
    ∀ base : Heap, (K w.params).In base -> base.Ns mainGlobals mg -> FnOk l.prog w (K w.params) mg base (CX w) k fa fd [x] (sp w))
  (hsp : ∀ (w : World) (H : Hp) (a : Addr) (ns : List Int), ns.length <= n -> Only H -> SqL (K w.params) H a (ns.map V.int) -> sp w [.ref a] H (fun v _ => v = .bl true) fun _ _ _ => False)
  (hCX : ∀ (w : World) (H : Hp) (s : Shared) (e : Value) (s' : Shared), CX w [] H s (fun _ _ _ => False) e s' -> False) :
  PySem.W.WalkO q loose XP YP l.row.toRowW d [] (fun f vs => PySem.call f vs) := by
 refine Att.attach_call hn hdf fun w s₀ s₁ mg mb fa o pm cd doc a vs ns G Y ho hd hcd hmg hobj hints hlen hg => ?_
 have KX := hY w _ Y
 obtain ⟨fd, hb, hF⟩ := F w mg fa _ KX G.T.g hmg
 exact law_call KX G.T.g G.T.b G.T.builtins G.T.nolimit hg hobj hints (Nat.le_trans hlen hn2) hr hF hb (fun H hO hS => hsp w H a ns hlen hO hS) fun H e s' => hCX w H s₁ e s'
end L2
namespace L2
open PySem PySem.Spec PyProof.Rows
def defArgs (s : Stmt) : Arguments := match s with
 | .FunctionDef _ a _ _ _ _ _ _ _ _ => a
 | _ => { posonlyargs := [], args := [], vararg := none, kwonlyargs := [], kw_defaults := [], kwarg := none, defaults := [] }
def defBody (s : Stmt) : List Stmt := match s with
 | .FunctionDef _ _ b _ _ _ _ _ _ _ => b
 | _ => []
def defScope (s : Stmt) : Scope := match s with
 | .FunctionDef _ _ _ _ _ _ sc _ _ _ => sc
 | _ => { kind := .function, names := [], isGenerator := false, isCoroutine := false }
abbrev E0 : XK := fun _ _ _ => False
structure Fun (K : PySem.W.Frag) (x qual : Str) (st : Stmt) (f : Addr) (fd : FuncData) : Prop where
 ex : ∃ (oc : Value) (od : Option Addr) (kV doc pm : Value) (an : Option Addr) (cdv ct : Value) (osl : Array (Option Value)),
  fd = PySem.W.fnOf x qual (defArgs st) (defBody st) (defScope st) .none kV doc pm an cdv ct /\ K.lookup f = some ⟨oc, od, .func fd, osl⟩ /\ PySem.W.codeIn K cdv qual = true
 kp : PySem.W.keepIn K (.ref f) = true
section
variable {P : Program} {w : World} {K : PySem.W.Frag} {mg : Str -> Option Value} {base : Heap}
theorem Fun.binds {x qual : Str} {st : Stmt} {f : Addr} {fd : FuncData} {ps : List Str} (F : Fun K x qual st f fd)
  (h : ∀ (kV doc pm : Value) (an : Option Addr) (cdv ct : Value) (us : List Value), us.length = ps.length -> bindArgs (PySem.W.fnOf x qual (defArgs st) (defBody st) (defScope st) .none kV doc pm an cdv ct) ⟨us, []⟩ = pure (ps.zip us)) : Binds K fd ps [] := by
 obtain ⟨oc, od, kV, doc, pm, an, cdv, ct, osl, rfl, lk, hcd⟩ := F.ex
 exact .all (h kV doc pm an cdv ct)
theorem fun_mk {x qual : Str} {st : Stmt} {f : Addr} {oc : Value} {od an : Option Addr} {osl : Array (Option Value)} {kV doc pm cdv ct : Value} (l : K.lookup f = some ⟨oc, od, .func (PySem.W.fnOf x qual (defArgs st) (defBody st) (defScope st) .none kV doc pm an cdv ct), osl⟩)
  (c : PySem.W.codeIn K cdv qual = true) (k : PySem.W.keepIn K (.ref f) = true) : Fun K x qual st f (PySem.W.fnOf x qual (defArgs st) (defBody st) (defScope st) .none kV doc pm an cdv ct) := ⟨⟨oc, od, kV, doc, pm, an, cdv, ct, osl, rfl, l, c⟩, k⟩
end
theorem iteF {A B : Prop} (h : B) : if false = true then A else B := by
 rw [if_neg Bool.false_ne_true]
 exact h
theorem iteT {A B : Prop} (h : A) : if true = true then A else B := by
 rw [if_pos rfl]
 exact h
def Same (H H' : Hp) : Prop := ∀ b o, H b = some o -> H' b = some o
theorem Same.seq {K : PySem.W.Frag} {H H' : Hp} {a : Addr} {xs : List V} (e : Same H H') (h : SqL K H a xs) : SqL K H' a xs := by
 rcases h with (h | ⟨o, h⟩) | h
 ·exact .inl (.inl (e _ _ h))
 ·exact .inl (.inr ⟨o, e _ _ h⟩)
 ·exact .inr h
end L2
set_option maxHeartbeats 4000000
namespace L2
open PySem PySem.Spec PyProof.Rows
open Builtin.Int (intBits)
abbrev Bt (n : Nat) (i : Int) : Prop := intBits i <= n
theorem Bt.le {m n : Nat} {i : Int} (h : Bt m i) (q : m <= n := by decide) : Bt n i := Nat.le_trans h q
theorem bt_abs {n : Nat} {i : Int} (h : i.natAbs < 2 ^ n) : Bt n i := PySem.intBits_le_iff.mpr h
theorem Bt.abs {n : Nat} {i : Int} (h : Bt n i) : i.natAbs < 2 ^ n := PySem.intBits_le_iff.mp h
theorem Bt.of_abs {n : Nat} {i j : Int} (h : Bt n j) (q : i.natAbs <= j.natAbs) : Bt n i := PySem.intBits_le_of_natAbs q h
theorem Bt.add {m n : Nat} {i j : Int} (h : Bt m i) (q : Bt n j) : Bt (max m n + 1) (i + j) := PySem.intBits_add_le h q
theorem Bt.sub {m n : Nat} {i j : Int} (h : Bt m i) (q : Bt n j) : Bt (max m n + 1) (i - j) := PySem.intBits_sub_le h q
theorem Bt.mul {m n : Nat} {i j : Int} (h : Bt m i) (q : Bt n j) : Bt (m + n) (i * j) := PySem.intBits_mul_le h q
theorem Bt.neg {m : Nat} {i : Int} (h : Bt m i) : Bt m (-i) := PySem.intBits_neg_le h
def CMulB (i j : Int) : Prop := Bt 60000000 i /\ Bt 60000000 j
def CDivB (_ j : Int) : Prop := j ≠ 0 /\ Bt 9000 j
theorem log_of_bt {j : Int} (h0 : j ≠ 0) (h : Bt 9000 j) : j.natAbs.log2 < 9000 := by
 have e : intBits j = j.natAbs.log2 + 1 := by
  unfold Builtin.Int.intBits
  rw [if_neg (by simpa using h0)]
 have h' : intBits j <= 9000 := h
 omega
section
variable {X : Cx} {a b c : Expr} {ta tb tc : TE} {pos : Pos}
theorem op_mulB : OpR X (binaryOp .Mult) (rI CMulB fun i j => .int (i * j)) := opI fun _ _ _ _ _ _ _ hc q => mul_int q (IntMulOk.of_le hc.1 hc.2 (by decide))
theorem op_fdivB : OpR X (binaryOp .FloorDiv) (rI CDivB fun i j => .int (i.fdiv j)) := opI fun _ _ _ _ _ _ _ hc q => floordiv_int hc.1 q (.inl (PyProof.noPylong_of_log2 (log_of_bt hc.1 hc.2)))
end
mutual
def Rp (K : PySem.W.Frag) (H : Hp) : PyData -> V -> Prop
 | .none, v => v = .non
 | .bool b, v => v = .bl b
 | .int i, v => v = .int i
 | .str x, v => v = .str x
 | .list ds, v => ∃ a xs, v = .ref a /\ SqL K H a xs /\ RpL K H ds xs
 | .tuple ds, v => ∃ a xs, v = .ref a /\ SqT K H a xs /\ RpL K H ds xs
 | .dict _, _ => False
def RpL (K : PySem.W.Frag) (H : Hp) : List PyData -> List V -> Prop
 | [], xs => xs = []
 | d :: ds, xs => ∃ x r, xs = x :: r /\ Rp K H d x /\ RpL K H ds r
end
theorem Same.seqT {K : PySem.W.Frag} {H H' : Hp} {a : Addr} {xs : List V} (e : Same H H') (h : SqT K H a xs) : SqT K H' a xs := by
 rcases h with (h | ⟨o, h⟩) | h
 ·exact .inl (.inl (e _ _ h))
 ·exact .inl (.inr ⟨o, e _ _ h⟩)
 ·exact .inr h
mutual
theorem Rp.same {K : PySem.W.Frag} {H H' : Hp} (e : Same H H') : ∀ (d : PyData) {v : V}, Rp K H d v -> Rp K H' d v
 | .none, _, h => by simpa [Rp] using h
 | .bool _, _, h => by simpa [Rp] using h
 | .int _, _, h => by simpa [Rp] using h
 | .str _, _, h => by simpa [Rp] using h
 | .list ds, _, h => by
  rw [Rp] at h ⊢
  obtain ⟨a, xs, h1, h2, h3⟩ := h
  exact ⟨a, xs, h1, e.seq h2, RpL.same e ds h3⟩
 | .tuple ds, _, h => by
  rw [Rp] at h ⊢
  obtain ⟨a, xs, h1, h2, h3⟩ := h
  exact ⟨a, xs, h1, e.seqT h2, RpL.same e ds h3⟩
 | .dict _, _, h => by simp [Rp] at h
theorem RpL.same {K : PySem.W.Frag} {H H' : Hp} (e : Same H H') : ∀ (ds : List PyData) {xs : List V}, RpL K H ds xs -> RpL K H' ds xs
 | [], _, h => by simpa [RpL] using h
 | d :: ds, _, h => by
  rw [RpL] at h ⊢
  obtain ⟨x, r, h1, h2, h3⟩ := h
  exact ⟨x, r, h1, Rp.same e d h2, RpL.same e ds h3⟩
end
section
variable {X : Cx} {pins : List (Addr × Obj)} {σ : St} {H : Hp} {s : Shared}
mutual
theorem Rp.reads (I : Inv X pins σ H s) : ∀ (d : PyData) {v : V} {u : Value}, Rp X.K H d v -> RelV v u -> ∃ as, Reads s.heap u d as
 | .none, v, u, h, r => by
  rw [Rp] at h; subst h
  cases (show u = Value.none from r); exact ⟨_, .none⟩
 | .bool b, v, u, h, r => by
  rw [Rp] at h; subst h
  cases (show u = Value.bool b from r); exact ⟨_, .bool b⟩
 | .int i, v, u, h, r => by
  rw [Rp] at h; subst h
  obtain ⟨t, rfl⟩ := (show ∃ t, u = Value.int i t from r); exact ⟨_, .int i t⟩
 | .str x, v, u, h, r => by
  rw [Rp] at h; subst h
  obtain ⟨t, rfl⟩ := (show ∃ t, u = Value.str x t from r); exact ⟨_, .str x t⟩
 | .list ds, v, u, h, r => by
  rw [Rp] at h
  obtain ⟨a, xs, rfl, h2, h3⟩ := h
  cases (show u = Value.ref a from r)
  obtain ⟨its, hv, ⟨o, n, e, hc, _, hd⟩, _⟩ := I.list h2
  obtain ⟨as, q⟩ := RpL.reads I ds h3 hv
  exact ⟨_, .list e hc hd (by simpa using q)⟩
 | .tuple ds, v, u, h, r => by
  rw [Rp] at h
  obtain ⟨a, xs, rfl, h2, h3⟩ := h
  cases (show u = Value.ref a from r)
  obtain ⟨its, hv, ⟨o, e, hc, n, hd⟩, _⟩ := I.tuple h2
  obtain ⟨as, q⟩ := RpL.reads I ds h3 hv
  exact ⟨_, .tuple e hc hd (by simpa using q)⟩
 | .dict _, v, u, h, r => by simp [Rp] at h
theorem RpL.reads (I : Inv X pins σ H s) : ∀ (ds : List PyData) {xs : List V} {us : List Value}, RpL X.K H ds xs -> Vals xs us -> ∃ as, ReadsAll s.heap us ds as
 | [], xs, us, h, r => by
  rw [RpL] at h; subst h
  cases r; exact ⟨_, .nil⟩
 | d :: ds, xs, us, h, r => by
  rw [RpL] at h
  obtain ⟨x, t, rfl, h2, h3⟩ := h
  cases r with
  | cons r1 r2 =>
   obtain ⟨as, q⟩ := Rp.reads I d h2 r1
   obtain ⟨bs, q'⟩ := RpL.reads I ds h3 r2
   exact ⟨_, .cons q q'⟩
end
end
section
variable {X : Cx}
def rEqD (K : PySem.W.Frag) (neg : Bool) : R2 := fun x y H Q => ∃ d e, Rp K H d x /\ Rp K H e y /\ PySem.SeqAt.shaped d = true /\ PySem.SeqAt.shaped e = true /\ Q (.bl (if neg then !PyData.eqv d e else PyData.eqv d e)) H
theorem op_eqD (hu : X.A.units + 64 < cLine) : OpR X (compareOp .Eq) (rEqD X.K false) := by
 intro pins s σ H x y v u Q I rx ry h
 obtain ⟨d, e, h1, h2, h3, h4, q⟩ := h
 obtain ⟨as, r1⟩ := Rp.reads I d h1 rx
 obtain ⟨bs, r2⟩ := Rp.reads I e h2 ry
 exact eq_dataH r1 r2 h3 h4 hu ⟨.bl (PyData.eqv d e), H, I, rfl, q⟩
theorem op_neD (hu : X.A.units + 64 < cLine) : OpR X (compareOp .NotEq) (rEqD X.K true) := by
 intro pins s σ H x y v u Q I rx ry h
 obtain ⟨d, e, h1, h2, h3, h4, q⟩ := h
 obtain ⟨as, r1⟩ := Rp.reads I d h1 rx
 obtain ⟨bs, r2⟩ := Rp.reads I e h2 ry
 exact ne_dataH r1 r2 h3 h4 hu ⟨.bl (!PyData.eqv d e), H, I, rfl, q⟩
end
structure Cal (P : Program) (w : World) (K : PySem.W.Frag) (mg : Str -> Option Value) (base : Heap) (CX : CXT) (k : Nat) (x : Str) (ps : List Str) (sp : Sp) : Prop where
 ex : ∃ f fd, FnOk P w K mg base CX k f fd ps sp /\ mg x = some (.ref f) /\ PySem.W.keepIn K (.ref f) = true /\ Binds K fd ps []
section
variable {X : Cx} {CX : CXT} {k : Nat} {ps : List Str} {sp : Sp} {E : XK} {x : Str} {p pos : Pos} {e : Expr} {es : List Expr} {t : TA}
theorem pe_fn (C : Cal X.prog X.w X.K X.mg X.base CX k x ps sp) (hr : Room k X.A) (hx : Passes CX X E) (ha : PA X (e :: es) t) (hg : Gl X x := by rfl)
  (hdb : (x == ("__debug__" : Str)) = false := by decide) (he : starEach (e :: es) X.env = (false, eval e X.env) :: starEach es X.env := by rfl) (hpl : (backTo pos (starEach es X.env)).any (·.1) = false := by rfl) :
  PE X (.Call (.Name x p) (e :: es) [] pos) (tCall sp [] E t) := by
 obtain ⟨f, fd, F, hm, hk, hb⟩ := C.ex
 exact pe_call F hr hg hm hk hb .nil hx ha hdb he hpl
end
end L2
set_option Elab.async false
set_option linter.all false
set_option maxRecDepth 100000
set_option maxHeartbeats 4000000
namespace L2
open PySem PySem.Spec PyProof.Rows
section
variable {P : Program} {w : World} {H : Hp} {h h' : Heap} {a : Addr} {o : HO}
theorem HOk.track (x : HOk P w H h) (hn : H a = none) (new : ObjOk P w (upd H a o) h a o) : HOk P w (upd H a o) h := fun b u e => by
 by_cases hb : b = a
 ·subst hb; rw [upd_same] at e; cases e; exact new
 ·rw [upd_ne hb] at e
  exact (x b u e).stay (fun c v _ q => q) (fun c q => by rw [upd_ne (ne_of_none q hn)]; exact q) fun c xs q => by rw [upd_ne (ne_of_none q hn)]; exact q
theorem HOk.other (x : HOk P w H h) (hn : H a = none) (k : ∀ b u, b ≠ a -> h.get? b = some u -> h'.get? b = some u) : HOk P w H h' := fun b u e => by
 have nit : ∀ c v, H c = some v -> c ≠ a := fun c v q z => by rw [z, hn] at q; cases q
 refine (x b u e).stay (fun c v hc q => k c v ?_ q) (fun _ q => q) fun _ _ q => q
 rcases hc with z | z
 ·rw [z]; exact nit b u e
 ·exact nit c _ z
end
end L2
set_option Elab.async false
set_option linter.all false
set_option maxRecDepth 100000
set_option maxHeartbeats 4000000
namespace Mth
theorem div_gcd {t b : Int} (h : 0 < b) : (0 : Int) < (Int.gcd t b : Int) /\ t = (Int.gcd t b : Int) * (t / (Int.gcd t b : Int)) /\ b = (Int.gcd t b : Int) * (b / (Int.gcd t b : Int)) /\ 1 <= b / (Int.gcd t b : Int) /\ Int.gcd (t / (Int.gcd t b : Int)) (b / (Int.gcd t b : Int)) = 1 := by
 have p := (Int.gcd_pos_iff (a := t) (b := b)).mpr (.inr (by omega))
 have e1 : t = (Int.gcd t b : Int) * (t / (Int.gcd t b : Int)) := (Int.mul_ediv_cancel' (Int.gcd_dvd_left t b)).symm
 have e2 : b = (Int.gcd t b : Int) * (b / (Int.gcd t b : Int)) := (Int.mul_ediv_cancel' (Int.gcd_dvd_right t b)).symm
 refine ⟨by omega, e1, e2, ?_, ?_⟩
 ·rcases (show b / (Int.gcd t b : Int) < 1 \/ 1 <= b / (Int.gcd t b : Int) by omega) with q | q
  ·have : (Int.gcd t b : Int) * (b / (Int.gcd t b : Int)) <= 0 := Int.mul_nonpos_of_nonneg_of_nonpos (by omega) (by omega)
   omega
  ·exact q
 ·have q := Int.gcd_mul_left (Int.gcd t b : Int) (t / (Int.gcd t b : Int)) (b / (Int.gcd t b : Int))
  rw [<- e1, <- e2, Int.natAbs_natCast] at q
  have q' : Int.gcd t b * 1 = Int.gcd t b * Int.gcd (t / (Int.gcd t b : Int)) (b / (Int.gcd t b : Int)) := by rw [Nat.mul_one]; exact q
  exact (Nat.eq_of_mul_eq_mul_left p q').symm
theorem natAbs_ediv_le {a b : Int} (hb : 0 < b) : (a / b).natAbs <= a.natAbs := by
 rw [<- Int.fdiv_eq_ediv_of_nonneg a (Int.le_of_lt hb)]
 exact PySem.natAbs_fdiv_le a b
end Mth
set_option Elab.async false
set_option linter.all false
set_option maxRecDepth 100000
set_option maxHeartbeats 4000000
namespace L2
open PySem PySem.Spec PyProof.Rows
theorem bt_small {i : Int} (h1 : -(2 ^ 64) < i) (h2 : i < 2 ^ 64) : Bt 9000 i := Nat.le_trans (PySem.intBits_le_64 h1 h2) (by decide)
theorem bt_k {i : Int} (h : i.natAbs < 2 ^ 640) : Bt 640 i := bt_abs h
theorem bt_n {i : Int} (h0 : 0 <= i) (h : i < 2 ^ 640) : Bt 640 i := bt_abs (by omega)
theorem same_new {H : Hp} {p : Addr} (h : H p = none) (o : HO) : Same H (upd H p o) := fun b u q => by rw [upd_ne (ne_of_none q h)]; exact q
theorem PE.imp {X : Cx} {e : Expr} {t t' : TE} (h : PE X e t) (i : ∀ σ H Q, t' σ H Q -> t σ H Q) : PE X e t' := fun pins s σ H Q I q => h pins s σ H Q I (i σ H Q q)
theorem OpR.imp {X : Cx} {f : Value -> Value -> Sem Value} {r r' : R2} (h : OpR X f r) (i : ∀ x y H Q, r' x y H Q -> r x y H Q) : OpR X f r' := fun pins s σ H x y v u Q I rx ry q => h pins s σ H x y v u Q I rx ry (i x y H Q q)
section
variable {X : Cx} {es : List Expr} {t : TA} {pos : Pos}
theorem SlR.imp {r r' : V -> Option Int -> Option Int -> Hp -> VK -> Prop} (h : SlR X r) (i : ∀ x lo hi H Q, r' x lo hi H Q -> r x lo hi H Q) : SlR X r' := by
 unfold SlR at h ⊢
 intros
 apply h
 all_goals first | assumption | (apply i; assumption)
end
end L2
set_option Elab.async false
set_option linter.all false
set_option maxRecDepth 100000
set_option maxHeartbeats 4000000
namespace L2
open PySem PySem.Spec PyProof.Rows
end L2
set_option Elab.async false
set_option linter.all false
set_option maxRecDepth 100000
set_option maxHeartbeats 4000000
namespace L2
open PySem PySem.Spec PyProof.Rows
structure QE (X : Cx) (e : Expr) (t : TE) : Prop where
 p : PE X e t
structure QT (X : Cx) (e : Expr) (t : TT) : Prop where
 p : PT X e t
structure QW (X : Cx) (e : Expr) (t : TT) : Prop where
 p : PW X e t
structure QA (X : Cx) (es : List Expr) (t : TA) : Prop where
 p : PA X es t
structure QS (X : Cx) (st : Stmt) (t : TS) : Prop where
 p : PS X st t
structure QSs (X : Cx) (st : List Stmt) (t : TS) : Prop where
 p : PSs X st t
structure QG (X : Cx) (e : Expr) (t : TG) : Prop where
 p : PG X e t
structure QGs (X : Cx) (es : List Expr) (t : TGs) : Prop where
 p : PGs X es t
structure QI (X : Cx) (tg e : Expr) (t : TI) : Prop where
 p : PI X tg e t
structure QO (X : Cx) (e : Option Expr) (t : TO) : Prop where
 p : PO X e t
section
variable {X : Cx} {a b c e f o : Expr} {ta tb tc te : TE} {pos pos2 p2 : Pos} {tA tB' : TT} {rest : List Expr} {es : List Expr} {aa : TA}
theorem qe_int {i j pos} : QE X (.Constant (.int i) j pos) (tC (.int i)) := ⟨pe_int⟩
theorem qe_bl {i j pos} : QE X (.Constant (.bool i) j pos) (tC (.bl i)) := ⟨pe_bl⟩
theorem qe_non {j pos} : QE X (.Constant .none j pos) (tC .non) := ⟨pe_non⟩
theorem qv (i : Nat) {x : Str} {pos : Pos} (hN : X.N[i]? = some x := by rfl) (hv : Vis X.env.scope x := by first | exact Or.inl rfl | exact Or.inr (Or.inl rfl) | exact Or.inr (Or.inr rfl)) (hd : (x == ("__debug__" : Str)) = false := by decide)
  (hcd : (x == ("__classdict__" : Str)) = false := by decide) : QE X (.Name x pos) (tVar i) := ⟨pe_var hN hv hd hcd⟩
theorem qe_op {op : Operator} {r : R2} (ho : OpR X (binaryOp op) r) (ha : QE X a ta) (hb : QE X b tb) : QE X (.BinOp a op b pos) (tOp r ta tb) := ⟨pe_op ho ha.p hb.p⟩
theorem qe_un {op : UnaryOp} {r : V -> Hp -> VK -> Prop} (ho : UnR X (unaryOp op) r) (ha : QE X a ta) : QE X (.UnaryOp op a pos) (tUn r ta) := ⟨pe_un ho ha.p⟩
theorem qe_one {op} {t : TE} (h : QE X a t) : QE X (.BoolOp op [a] pos) t := ⟨pe_one h.p⟩
theorem qe_and (ha : QE X a ta) (hb : QE X (.BoolOp .And (b :: rest) pos) tb) : QE X (.BoolOp .And (a :: b :: rest) pos) (tAndV ta tb) := ⟨pe_and ha.p hb.p⟩
theorem qe_cmpR {op : CmpOp} {r : R2} (ho : OpR X (compareOp op) r) (ha : QE X a ta) (hb : QE X b tb) (hm : behindInMarks op b = false) : QE X (.Compare a [op] [b] pos) (tOp r ta tb) := ⟨pe_cmpR ho ha.p hb.p hm⟩
theorem qt_cmpR {op : CmpOp} {r : R2} (ho : OpR X (compareOp op) r) (ha : QE X a ta) (hb : QE X b tb) (hm : behindInMarks op b = false) : QT X (.Compare a [op] [b] pos) (tTest (tOp r ta tb)) := ⟨pt_cmpR ho ha.p hb.p hm⟩
theorem qt_val {t : TE} (h : QE X e t) (he : ∀ whole, isTrue e X.env whole = (do let v <- whole; standAt e.pos; holding [v] (truthy v)) := by intro _; rfl) : QT X e (tB t) := ⟨pt_val h.p he⟩
theorem qt_not (ha : QT X a tA) : QT X (.UnaryOp .Not a pos) (tNot tA) := ⟨pt_not ha.p⟩
theorem qw_or1 (ha : QT X a tA) : QW X (.BoolOp .Or [a] pos) tA := ⟨pw_or1 ha.p⟩
theorem qw_or (ha : QT X a tA) (hb : QW X (.BoolOp .Or (b :: rest) pos) tB') : QW X (.BoolOp .Or (a :: b :: rest) pos) (tOr tA tB') := ⟨pw_or ha.p hb.p⟩
theorem QW.pt {t : TT} (h : QW X e t) : QT X e t := ⟨h.p.pt⟩
theorem qe_bltn {x : Str} {v : V} {u : Value} (hg : Gl X x) (hm : X.mg x = none) (hv : bootBuiltins x = some u) (r : RelV v u) (hn : x ≠ "__name__" := by decide) (hd : (x == ("__debug__" : Str)) = false := by decide) : QE X (.Name x pos) (tC v) := ⟨pe_bltn hg hm hv r hn hd⟩
theorem qa_nil : QA X [] tNil := ⟨pa_nil⟩
theorem qa_cons (ha : QE X e te) (hr : QA X es aa) (hs : starEach (e :: es) X.env = (false, eval e X.env) :: starEach es X.env := by rfl) : QA X (e :: es) (tCons te aa) := ⟨pa_cons ha.p hr.p hs⟩
theorem qe_fn {CX : CXT} {k : Nat} {ps : List Str} {sp : Sp} {E : XK} {x : Str} {pp : Pos} (C : Cal X.prog X.w X.K X.mg X.base CX k x ps sp) (hr : Room k X.A) (hx : Passes CX X E) (ha : QA X (e :: es) aa) (hg : Gl X x := by rfl)
  (hdb : (x == ("__debug__" : Str)) = false := by decide) (he : starEach (e :: es) X.env = (false, eval e X.env) :: starEach es X.env := by rfl) (hpl : (backTo pos (starEach es X.env)).any (·.1) = false := by rfl) : QE X (.Call (.Name x pp) (e :: es) [] pos) (tCall sp [] E aa) := ⟨pe_fn C hr hx ha.p hg hdb he hpl⟩
theorem qe_callB {x : Str} {pp : Pos} {id : String} {r : List V -> Hp -> VK -> Prop} (hc : CallR X (.builtin id) r) (hg : Gl X x) (hm : X.mg x = none) (hv : bootBuiltins x = some (.builtin id)) (ha : QA X (e :: es) aa) (hn : x ≠ "__name__" := by decide) (hdb : (x == ("__debug__" : Str)) = false := by decide)
  (he : starEach (e :: es) X.env = (false, eval e X.env) :: starEach es X.env := by rfl) (hpl : (backTo pos (starEach es X.env)).any (·.1) = false := by rfl) : QE X (.Call (.Name x pp) (e :: es) [] pos) (tCB r aa) := ⟨pe_callB hc hg hm hv ha.p hn hdb he hpl⟩
theorem qe_callTy {x : Str} {pp : Pos} {id : String} {r : List V -> Hp -> VK -> Prop} (hc : CallR X (.type id) r) (hg : Gl X x) (hm : X.mg x = none) (hv : bootBuiltins x = some (.type id)) (ha : QA X (e :: es) aa) (hn : x ≠ "__name__" := by decide) (hdb : (x == ("__debug__" : Str)) = false := by decide)
  (he : starEach (e :: es) X.env = (false, eval e X.env) :: starEach es X.env := by rfl) (hpl : (backTo pos (starEach es X.env)).any (·.1) = false := by rfl) : QE X (.Call (.Name x pp) (e :: es) [] pos) (tCB r aa) := ⟨pe_callTy hc hg hm hv ha.p hn hdb he hpl⟩
theorem qe_ix {r : R2} (hr : IxR X r) (ha : QE X a ta) (hb : QE X b tb) (hs : PlainIx b) : QE X (.Subscript a b pos) (tOp r ta tb) := ⟨pe_ix hr ha.p hb.p hs⟩
theorem qo_none : QO X none tNoPart := ⟨po_none⟩
theorem qo_some (h : QE X e te) : QO X (some e) (tPart te) := ⟨po_some h.p⟩
theorem qe_slice {r : V -> Option Int -> Option Int -> Hp -> VK -> Prop} {lo hi : Option Expr} {tl th : TO} (hr : SlR X r) (he : QE X e te) (hl : QO X lo tl) (hu : QO X hi th) : QE X (.Subscript e (.Slice lo hi none p2) pos) (tSl r te tl th) := ⟨pe_slice hr he.p hl.p hu.p⟩
theorem qe_bm {T id : String} {name : Str} {apos cpos : Pos} {r : V -> List V -> Hp -> VK -> Prop} (pa : PlainAttrs T) (slot : Slot T name id) (hty : typeOf (.builtin id) = pure (.type "method_descriptor")) (hm : MtR X id r) (ho : QE X o te) (ha : QA X (e :: es) aa)
  (hbase : attributeBase o name X.env (eval o X.env) = eval o X.env := by rfl)
  (hfew : ((backTo cpos (starEach (e :: es) X.env)).all (fun x => !x.1) && (backToKw cpos (keywordEach [] X.env)).all (fun x => x.1.isSome)
   && decide ((e :: es).length + ([] : List Keyword).length + (if ([] : List Keyword).isEmpty then 0 else 1) < 30)) = true := by rfl)
  (hline : (apos.endLine == cpos.line) = true := by rfl) (hs : starEach (e :: es) X.env = (false, eval e X.env) :: starEach es X.env := by rfl) (hplain : (backTo cpos (starEach es X.env)).any (·.1) = false := by rfl) :
  QE X (.Call (.Attribute o name apos) (e :: es) [] cpos) (tBM X.K T r te aa) := ⟨pe_bm pa slot hty hm ho.p ha.p hbase hfew hline hs hplain⟩
end
section
variable {X : Cx} {st : Stmt} {rest body a b : List Stmt} {t u tb : TS} {e tg c iter : Expr} {te : TE} {tc : TT} {pos : Pos} {g : TG} {wi : TI} {aa : TA}
theorem qss_nil : QSs X [] tNext := ⟨pss_nil⟩
theorem qss_cons (h1 : QS X st t) (h2 : QSs X rest u) : QSs X (st :: rest) (tSeq t u) := ⟨pss_cons h1.p h2.p⟩
theorem qss_one (h1 : QS X st t) : QSs X [st] t := ⟨pss_one h1.p⟩
theorem qs_ret (he : QE X e te) : QS X (.Return (some e) pos) (tRet te) := ⟨ps_ret he.p⟩
theorem qs_expr (he : QE X e te) (hs : swapsWith e none pos.line X.env = pure false := by rfl) : QS X (.Expr e pos) (tDrop te) := ⟨ps_expr he.p hs⟩
theorem qs_if (hc : QT X c tc) (ha : QSs X a t) (hb : QSs X b u) : QS X (.If c a b pos) (tIfS tc t u) := ⟨ps_if hc.p ha.p hb.p⟩
theorem qs_while (hp : PassesOwn (model X.prog X.w) X.A X.env X.xe) (hc : QT X c tc) (hb : QSs X body tb) : QS X (.While c body [] pos) (tWhile tc tb) := ⟨ps_while hp hc.p hb.p⟩
theorem qs_for (hp : PassesOwn (model X.prog X.w) X.A X.env X.xe) (hc : X.calm = true) (hi : QI X tg iter wi) (hg : QG X tg g) (hb : QSs X body tb)
  (hs : ∀ x, foldedSetIterable iter X.env x = pure x := by intro _; rfl) : QS X (.For tg iter body [] pos) (tFor wi g tb) := ⟨ps_for hp hc hi.p hg.p hb.p hs⟩
theorem qs_par {i j : Nat} {x y : Str} {a b : Expr} {px py pt : Pos} {kt k2 pt2} (hc : X.calm = true) (hN : X.N.Nodup) (hi : X.N[i]? = some x) (hj : X.N[j]? = some y) (hij : i ≠ j)
  (hx : X.env.scope.names.lookup x = some .local) (hy : X.env.scope.names.lookup y = some .local) (ha : QA X [a, b] aa)
  (hw : swappedStores [.Tuple [.Name x px, .Name y py] kt pt] (.Tuple [a, b] k2 pt2) X.env = pure (some [x, y]))
  (hs : swapsWithSole [.Tuple [.Name x px, .Name y py] kt pt] (.Tuple [a, b] k2 pt2) pos.line X.env = pure false := by rfl) :
  QS X (.Assign [.Tuple [.Name x px, .Name y py] kt pt] (.Tuple [a, b] k2 pt2) pos) (tPar i j aa) := ⟨ps_par hc hN hi hj hij hx hy ha.p hw hs⟩
theorem qgs_nil : QGs X [] gNil := ⟨pgs_nil⟩
theorem qgs_cons {es : List Expr} {t : TG} {u : TGs} (h1 : QG X e t) (h2 : QGs X es u)
  (hs : (assignEach (e :: es) X.env).map (·.2) = assign e X.env :: (assignEach es X.env).map (·.2) := by rfl) : QGs X (e :: es) (gCons t u) := ⟨pgs_cons h1.p h2.p hs⟩
theorem qg_tup {es : List Expr} {k : Nat} {t : TGs} {n : Nat} (hc : X.calm = true) (h : QGs X es t)
  (hn : (assignEach es X.env).length = n := by rfl) (hst : (assignEach es X.env).findIdx? (·.1) = none := by rfl) : QG X (.Tuple es k pos) (gTup X.K n t) := ⟨pg_tup hc h.p hn hst⟩
theorem qi_range1 {a : Expr} {p : Pos} (hg : Gl X "range") (hm : X.mg "range" = none) (ha : QA X [a] aa) (hs : starEach [a] X.env = [(false, eval a X.env)] := by rfl) : QI X tg (.Call (.Name "range" p) [a] [] pos) (iRng1 aa) := ⟨pi_range1 hg hm ha.p hs⟩
end
end L2
set_option Elab.async false
set_option linter.all false
set_option maxRecDepth 100000
set_option maxHeartbeats 4000000
namespace Mth
end Mth
namespace L2
open PySem PySem.Spec PyProof.Rows
end L2
set_option Elab.async false
set_option linter.all false
set_option maxRecDepth 100000
set_option maxHeartbeats 4000000
namespace Mth
def g3 (x y b : Int) : Int := ((Int.gcd ((Int.gcd b x : Nat) : Int) y : Nat) : Int)
theorem g3_dvd_b (x y b : Int) : g3 x y b ∣ b := Int.dvd_trans (Int.gcd_dvd_left _ _) (Int.gcd_dvd_left b x)
theorem g3_dvd_x (x y b : Int) : g3 x y b ∣ x := Int.dvd_trans (Int.gcd_dvd_left _ _) (Int.gcd_dvd_right b x)
theorem g3_dvd_y (x y b : Int) : g3 x y b ∣ y := Int.gcd_dvd_right _ _
theorem g3_pos {x y b : Int} (h : 0 < b) : 0 < g3 x y b := by
 have p := (Int.gcd_pos_iff (a := b) (b := x)).mpr (.inl (by omega))
 have p2 := (Int.gcd_pos_iff (a := ((Int.gcd b x : Nat) : Int)) (b := y)).mpr (.inl (by omega))
 unfold g3
 omega
structure Plc (x y b u v t : Int) : Prop where
 pos : 1 <= t
 cop : Int.gcd ((Int.gcd u v : Nat) : Int) t = 1
 cx : u * b = x * t
 cy : v * b = y * t
 lu : u.natAbs <= x.natAbs
 lv : v.natAbs <= y.natAbs
 lt : t.natAbs <= b.natAbs
theorem gcd_cast (a b c : Int) : Int.gcd ((Int.gcd a b : Nat) : Int) c = Nat.gcd (Nat.gcd a.natAbs b.natAbs) c.natAbs := rfl
theorem plc_of {x y b : Int} (h : 0 < b) : Plc x y b (x / g3 x y b) (y / g3 x y b) (b / g3 x y b) := by
 have hg := g3_pos (x := x) (y := y) h
 have ex : x = g3 x y b * (x / g3 x y b) := (Int.mul_ediv_cancel' (g3_dvd_x x y b)).symm
 have ey : y = g3 x y b * (y / g3 x y b) := (Int.mul_ediv_cancel' (g3_dvd_y x y b)).symm
 have eb : b = g3 x y b * (b / g3 x y b) := (Int.mul_ediv_cancel' (g3_dvd_b x y b)).symm
 have ee : g3 x y b = ((Nat.gcd (Nat.gcd b.natAbs x.natAbs) y.natAbs : Nat) : Int) := rfl
 refine ⟨?_, ?_, ?_, ?_, natAbs_ediv_le hg, natAbs_ediv_le hg, natAbs_ediv_le hg⟩
 ·generalize b / g3 x y b = t at eb
  rcases (show t < 1 \/ 1 <= t by omega) with q | q
  ·have : g3 x y b * t <= 0 := Int.mul_nonpos_of_nonneg_of_nonpos (by omega) (by omega)
   omega
  ·exact q
 ·rw [gcd_cast]
  generalize hu : x / g3 x y b = u at ex
  generalize hv : y / g3 x y b = v at ey
  generalize ht : b / g3 x y b = t at eb
  have nx := congrArg Int.natAbs ex
  have ny := congrArg Int.natAbs ey
  have nb := congrArg Int.natAbs eb
  rw [Int.natAbs_mul] at nx ny nb
  have ng : (g3 x y b).natAbs = Nat.gcd (Nat.gcd b.natAbs x.natAbs) y.natAbs := by rw [ee, Int.natAbs_natCast]
  generalize hG : (g3 x y b).natAbs = G at nx ny nb ng
  have hGp : 0 < G := by omega
  rw [nx, ny, nb, Nat.gcd_mul_left, Nat.gcd_mul_left] at ng
  have e1 : G * 1 = G * Nat.gcd (Nat.gcd t.natAbs u.natAbs) v.natAbs := by rw [Nat.mul_one]; exact ng
  have e2 := Nat.eq_of_mul_eq_mul_left hGp e1
  rw [Nat.gcd_comm (Nat.gcd u.natAbs v.natAbs), <- Nat.gcd_assoc]
  exact e2.symm
 ·have : x / g3 x y b * b = x / g3 x y b * (g3 x y b * (b / g3 x y b)) := congrArg _ eb
  rw [this, Int.mul_left_comm, <- Int.mul_assoc, <- ex]
 ·have : y / g3 x y b * b = y / g3 x y b * (g3 x y b * (b / g3 x y b)) := congrArg _ eb
  rw [this, Int.mul_left_comm, <- Int.mul_assoc, <- ey]
end Mth
set_option Elab.async false
set_option linter.all false
set_option maxRecDepth 100000
set_option maxHeartbeats 4000000
namespace L2
open PySem PySem.Spec PyProof.Rows
theorem own_in {K : PySem.W.Frag} {h0 : Heap} {mg : Str -> Option Value} {x : Str} {C : Addr} {bmB : List Value} {newId : String} (X : K.In h0) (hm : mg x = some (.ref C)) (q : PySem.W.excIn K C bmB newId = true) : OwnCls x C bmB newId mg h0 := by
 refine ⟨hm, ?_⟩
 unfold PySem.W.excIn at q
 split at q
 ·rename_i dd cd sl ho
  split at q
  ·rename_i C' bm k0 k1 k2 k3 n k5 hm hs
   simp only [Bool.and_eq_true, beq_iff_eq, Bool.not_eq_true'] at q
   obtain ⟨⟨⟨⟨⟨rfl, rfl⟩, hdel⟩, ht⟩, hok⟩, hni⟩ := q
   obtain ⟨nm, bs, mro, ns, qn, hd, sn, sub, ab, col, del⟩ := cd
   dsimp only at hm hdel hok hni
   subst hm hdel
   have hsl : sl = #[k0, k1, k2, k3, some (.builtin n), k5] := by
    obtain ⟨l⟩ := sl
    simp only at hs
    rw [hs]
   subst hsl
   exact ⟨bm, ns, nm, qn, bs, hd, sn, sub, ab, col, dd, k0, k1, k2, k3, k5, _, X _ _ ho, .of_isNs (PySem.W.isNs_of_in X hok), PySem.W.nsMap_none_of_in X hok hni, PySem.W.tail_of_in X ht⟩
  ·cases q
 ·cases q
structure Fly (P : Program) (w : World) (outer : List Env) (H : Hp) (h0 : Heap) (Cv : Value) (H' : Hp) (ea t : Addr) (B h : Heap) : Prop where
 fl : Heap.FlyingW B outer ea Cv (.ref t) h
 un : Un (frs outer) [] H H' h0 h
 hok : HOk P w H' h
 trk : ∀ b o, H' b = some o -> ∃ ob, B.get? b = some ob
 kep : ∀ b o, h0.get? b = some o -> b ∉ frs outer -> ∃ ob, B.get? b = some ob
def CXe (P : Program) (w : World) : CXT := fun outer H s E e s' => ∃ (ea t : Addr) (Cv : Value) (H' : Hp) (B : Heap), e = .ref ea /\ Fly P w outer H s.heap Cv H' ea t B s'.heap /\ AllBare s'.gens /\ s'.os = s.os /\ E Cv none H'
section
variable {P : Program} {w : World} {outer : List Env} {H H' : Hp} {h0 h h2 : Heap} {Cv : Value} {ea t : Addr} {B : Heap}
theorem ObjOk.there {a : Addr} {o : HO} (x : ObjOk P w H h a o) : ∃ ob, h.get? a = some ob := by
 cases o with
 | lst xs => obtain ⟨_, _, _, _, e⟩ := x; exact ⟨_, e⟩
 | tup xs => obtain ⟨_, _, _, ob, e, _⟩ := x; exact ⟨_, e⟩
 | dK kvs => obtain ⟨_, _, _, _, o, _, _, e, _⟩ := x; exact ⟨_, e⟩
 | dT kvs => obtain ⟨_, _, _, _, o, _, _, e, _⟩ := x; exact ⟨_, e⟩
 | set S n => obtain ⟨o, _, _, _, e, _⟩ := x; exact ⟨_, e⟩
 | ins C dx fs => obtain ⟨_, _, _, e, _⟩ := x; exact ⟨_, e⟩
 | own y => obtain ⟨_, e⟩ := x; exact ⟨_, e⟩
 | xd fs => obtain ⟨_, ⟨_, _, _, e, _⟩, _⟩ := x; exact ⟨_, e⟩
 | rng lo hi => obtain ⟨_, _, _, e⟩ := x; exact ⟨_, e⟩
 | frz ob u => obtain ⟨e, _⟩ := x; exact ⟨_, e⟩
 | tbl ps => exact ⟨_, (show h.get? a = some _ from x)⟩
 | met f y => exact ⟨_, (show h.get? a = some _ from x)⟩
 | ext φ => obtain ⟨_, ⟨_, e⟩, _⟩ := x; exact ⟨_, e⟩
theorem HOk.over (ok : HOk P w H' h) (trk : ∀ b o, H' b = some o -> ∃ ob, B.get? b = some ob) (k1 : B.StaysIn h) (k2 : B.StaysIn h2) : HOk P w H' h2 := fun a o e =>
 (ok a o e).stay (fun b u hb q => by
  have hb' : ∃ o', H' b = some o' := by
   rcases hb with z | z
   ·exact ⟨o, by rw [z]; exact e⟩
   ·exact ⟨_, z⟩
  obtain ⟨o', hb'⟩ := hb'
  obtain ⟨ob, z⟩ := trk b o' hb'
  have z1 := k1 b ob z
  rw [q] at z1
  cases z1
  exact k2 b u z) (fun _ q => q) fun _ _ q => q
theorem Fly.on (x : Fly P w outer H h0 Cv H' ea t B h) (f : B.StaysIn h2) (sm : h.UpToSlots h2) : Un (frs outer) [] H H' h0 h2 /\ HOk P w H' h2 := by
 have fr : ∀ b ∈ frs outer, ∃ o, h.get? b = some o /\ ∀ vs, o.data ≠ .fields vs := fun b hb => (x.fl.2.2.1.mem hb).2
 refine ⟨⟨fun b o e n hb hx => ?_, fun b o e n hb hx => ?_, x.un.free, fun b o e hx => ?_, x.un.tups, x.un.frzs, x.un.tbls⟩, x.hok.over x.trk x.fl.1 f⟩
 ·obtain ⟨ob, z⟩ := x.kep b o e hb
  have z1 := x.fl.1 b ob z
  rw [x.un.keep b o e n hb hx] at z1
  cases z1
  exact f b _ z
 ·obtain ⟨sl, z⟩ := x.un.slot b o e n hb hx
  obtain ⟨o', z', d⟩ := fr b hb
  rw [z] at z'
  cases z'
  obtain ⟨sl', z2⟩ := sm b _ z d
  exact ⟨sl', z2⟩
 ·by_cases hb : b ∈ frs outer
  ·obtain ⟨o', z', d⟩ := fr b hb
   obtain ⟨sl', z2⟩ := sm b _ z' d
   exact ⟨_, z2⟩
  ·obtain ⟨ob, z⟩ := x.kep b o e hb
   exact ⟨ob, f b ob z⟩
end
section
variable {P : Program} {w : World} {K : PySem.W.Frag} {mg : Str -> Option Value} {base : Heap} {N : List Str} {qual : Str} {sc : Scope} {f : Addr} {cdv : Value} {A : Around} {outer : List Env} {s : Shared} {H : Hp} {E : XK}
theorem passE : Passes (CXe P w) ((cxOf (CXe P w) P w K mg base N qual sc f cdv A outer s H E).wish (cxOf (CXe P w) P w K mg base N qual sc f cdv A outer s H E).xe) E := by
 intro pins σ H1 s1 e s' I hx
 obtain ⟨ea, t, Cv, H', B, rfl, F, hb, ho, q⟩ := hx
 show wpAny (model P w) _ (leaving _ (.ref ea)) _ _ s'
 have hfr := I.ok.frames
 refine wpAny_leaves_onW hfr rfl F.fl fun h2 hfl2 sm => ?_
 obtain ⟨un2, hok2⟩ := F.on hfl2.1 sm
 have u1 : Un (frs outer) [] H H1 s.heap s1.heap := I.base
 have sz : ∀ b o, s.heap.get? b = some o -> b ≠ s.heap.objs.size := fun b o e => Nat.ne_of_lt (Heap.lt_size e)
 have nin : ∀ b o, s.heap.get? b = some o -> b ∉ frs outer -> b ∉ frs (envOfC qual sc s.heap.objs.size f cdv :: outer) := fun b o e hb z => by
  rcases List.mem_cons.mp (I.stkSub b z) with y | y
  ·exact sz b o e y
  ·exact hb y
 refine ⟨ea, t, Cv, H', B, rfl, ⟨hfl2, ⟨fun b o e n hb _ => ?_, fun b o e n hb _ => ?_, fun b o e n _ => ?_, fun b o e _ => ?_, fun b xs e => un2.tups b xs (u1.tups b xs e), fun b o u e => un2.frzs b o u (u1.frzs b o u e), fun b ps e => ?_⟩, hok2, F.trk, fun b o e hb => ?_⟩, hb, ho.trans I.os, q⟩
 ·exact un2.keep b o (u1.keep b o e n hb (by simp)) (u1.free b o e n (by simp)) (nin b o e hb) (by simp)
 ·obtain ⟨sl, z⟩ := u1.slot b o e n hb (by simp)
  obtain ⟨sl2, z2⟩ := un2.any z (u1.free b o e n (by simp)) (by simp)
  exact ⟨sl2, z2⟩
 ·obtain ⟨o', z⟩ := u1.there b o e (by simp)
  exact un2.free b o' z (u1.free b o e n (by simp)) (by simp)
 ·obtain ⟨o', z⟩ := u1.there b o e (by simp)
  exact un2.there b o' z (by simp)
 ·obtain ⟨m1, e1⟩ := u1.tbls b ps e
  obtain ⟨m2, e2⟩ := un2.tbls b _ e1
  exact ⟨m1 ++ m2, by rw [e2, Array.append_assoc]⟩
 ·obtain ⟨o', z⟩ := u1.there b o e (by simp)
  exact F.kep b o' z (nin b o e hb)
end
section
variable {P : Program} {w : World} {K : PySem.W.Frag} {mg : Str -> Option Value} {base : Heap} {N : List Str} {qual : Str} {sc : Scope} {f : Addr} {cdv : Value} {A : Around} {outer : List Env} {s : Shared} {H : Hp} {E : XK}
structure Exc (K : PySem.W.Frag) (mg : Str -> Option Value) (x : Str) (C : Addr) : Prop where
 nm : mg x = some (.ref C)
 ok : ∃ newId initId bm, ExcBaseFacts "ValueError" newId initId bm /\ PySem.W.excIn K C bm newId = true
def tRaise (E : XK) (C : Addr) : TS := fun _ _ H => E (.ref C) none H
theorem qs_raise {x : Str} {C : Addr} {m : Str} {np cpos pos p2 : Pos} {j} (T : Exc K mg x C) (hg : Gl ((cxOf (CXe P w) P w K mg base N qual sc f cdv A outer s H E).wish (cxOf (CXe P w) P w K mg base N qual sc f cdv A outer s H E).xe) x) (hdb : (x == ("__debug__" : Str)) = false := by decide) :
  QS ((cxOf (CXe P w) P w K mg base N qual sc f cdv A outer s H E).wish (cxOf (CXe P w) P w K mg base N qual sc f cdv A outer s H E).xe) (.Raise (some (.Call (.Name x np) [.Constant (.str m) j p2] [] cpos)) none pos) (tRaise E C) := by
 constructor
 intro pins s1 σ H1 D I q
 obtain ⟨newId, initId, bmB, FB, hex⟩ := T.ok
 obtain ⟨bm, Nn, nm, qn, bs, hdct, sn, sub, ab, col, dd, k0, k1, k2, k3, k5, mN, hC, hN, hni, TT⟩ := (own_in I.mod.kin T.nm hex).obj
 refine wpAny_Raise_call_subT (C := C) (nm := nm) (q := qn) (N := Nn) (bs := bs) (bm := bm) (hdct := hdct) (sn := sn) (sub := sub) (ab := ab) (col := col) (dd := dd) (k0 := k0) (k1 := k1) (k2 := k2) (k3 := k3) (k5 := k5) FB (mN := mN) (TT.hasType FB.hasBase) (I.ok.hd rfl) rfl hni (ld_glob I hg T.nm ⟨rfl, ?_⟩ hdb)
 refine Calls.evalArgs_plain (wpAny_mono ((pa_cons pe_str pa_nil) cpos pins s1 σ H1 (fun vs H2 => vs = [V.str m] /\ H2 = H1) I ⟨rfl, rfl⟩) (fun us s2 h2 => ?_) fun _ _ y => y)
 obtain ⟨vs, H2, I2, rv, rfl, rfl⟩ := h2
 obtain ⟨u, rfl, _⟩ := vals1 rv
 refine ⟨rfl, (by show 1 <= sizeLine; decide), I2.bk _ _ hC, hN.keeps I2.bk, TT.keeps I2.bk, fun h' e hx => ?_⟩
 show wpAny (model P w) _ (leaving _ (.ref e)) _ _ _
 have fin : ∀ env ∈ (envOfC qual sc s.heap.objs.size f cdv :: outer), ∀ b, env.frame = some b -> b ∈ frs (envOfC qual sc s.heap.objs.size f cdv :: outer) := fun env he b hb => List.mem_filterMap.mpr ⟨env, he, hb⟩
 refine wpAny_leaves_madeW (base := PySem.W.hideAll s2.heap (frs (envOfC qual sc s.heap.objs.size f cdv :: outer))) (h := s2.heap) I2.ok.frames rfl (fun b o q => PySem.W.of_hideAll _ q) (PySem.W.funFrames_hide I2.stack fin) hx fun h2 t x1 x2 x3 x4 => ?_
 have u1 : Un (frs outer) [] H H2 s.heap s2.heap := I2.base
 have sz : ∀ b o, s.heap.get? b = some o -> b ≠ s.heap.objs.size := fun b o e => Nat.ne_of_lt (Heap.lt_size e)
 have nin : ∀ b o, s.heap.get? b = some o -> b ∉ frs outer -> b ∉ frs (envOfC qual sc s.heap.objs.size f cdv :: outer) := fun b o e hb z => by
  rcases List.mem_cons.mp (I2.stkSub b z) with y | y
  ·exact sz b o e y
  ·exact hb y
 have inB : ∀ b o, s2.heap.get? b = some o -> b ∉ frs (envOfC qual sc s.heap.objs.size f cdv :: outer) -> (PySem.W.hideAll s2.heap (frs (envOfC qual sc s.heap.objs.size f cdv :: outer))).get? b = some o := fun b o e hb => PySem.W.hideAll_get _ e hb
 have trk : ∀ b o, H2 b = some o -> ∃ ob, (PySem.W.hideAll s2.heap (frs (envOfC qual sc s.heap.objs.size f cdv :: outer))).get? b = some ob := fun b o e => by
  obtain ⟨ob, z⟩ := (I2.hok b o e).there
  refine ⟨ob, inB b ob z fun y => ?_⟩
  rw [I2.stkFree b y] at e
  cases e
 have stay := x1.1
 have hok2 : HOk P w H2 h2 := I2.hok.over trk (fun b o q => PySem.W.of_hideAll _ q) stay
 have fr : ∀ b ∈ frs outer, ∃ o, s2.heap.get? b = some o /\ ∀ vs, o.data ≠ .fields vs := fun b hb => (I2.stack.mem (List.mem_cons_of_mem _ hb)).2
 have up : s2.heap.UpToSlots h2 := (Heap.UpToSlots.of_keeps hx.keeps).trans x4
 refine ⟨e, t, .ref C, H2, _, rfl, ⟨x1, ⟨fun b o e n hb _ => ?_, fun b o e n hb _ => ?_, u1.free, fun b o e _ => ?_, u1.tups, u1.frzs, u1.tbls⟩, hok2, trk, fun b o e hb => ?_⟩, I2.bare, I2.os, q⟩
 ·exact stay b o (inB b o (u1.keep b o e n hb (by simp)) (nin b o e hb))
 ·obtain ⟨sl, z⟩ := u1.slot b o e n hb (by simp)
  obtain ⟨o', z', d⟩ := fr b hb
  rw [z] at z'
  cases z'
  obtain ⟨sl', z2⟩ := up b _ z d
  exact ⟨sl', z2⟩
 ·obtain ⟨o', z⟩ := u1.there b o e (by simp)
  by_cases hb : b ∈ frs outer
  ·obtain ⟨o2, z', d⟩ := fr b hb
   obtain ⟨sl', z2⟩ := up b _ z' d
   exact ⟨_, z2⟩
  ·exact ⟨o', stay b o' (inB b o' z (nin b o e hb))⟩
 ·obtain ⟨o', z⟩ := u1.there b o e (by simp)
  exact ⟨o', inB b o' z (nin b o e hb)⟩
theorem Fun.okE {x : Str} {st : Stmt} {fd : FuncData} {ps : List Str} {k : Nat} {sp : Sp} (F : Fun K x qual st f fd) (S : FnScope N ps (defScope st)) (len : ∀ vs H Q E, sp vs H Q E -> vs.length = ps.length)
  (hbody : ∀ (cdv : Value) (A : Around) (outer : List Env) (s : Shared) (H : Hp) (vs : List V) (Q : VK) (E : XK), Room k (A.deeper (envOfC qual (defScope st) s.heap.objs.size f cdv)) -> sp vs H Q E ->
   ∃ t, QSs ((cxOf (CXe P w) P w K mg base N qual (defScope st) f cdv A outer s H E).wish (cxOf (CXe P w) P w K mg base N qual (defScope st) f cdv A outer s H E).xe) (defBody st) t /\ t { nx := fun _ H' => Q .non H', rt := Q } (start N vs) H) : FnOk P w K mg base (CXe P w) (k + 1) f fd ps sp := by
 obtain ⟨oc, od, kV, doc, pm, an, cdv, ct, osl, rfl, lk, hcd⟩ := F.ex
 refine fn_of lk hcd S len fun A outer s H vs Q E hr hsp => ?_
 obtain ⟨t, h, q⟩ := hbody cdv A outer s H vs Q E hr hsp
 exact ⟨t, h.p, q⟩
theorem Fun.okN {x : Str} {st : Stmt} {fd : FuncData} {ps : List Str} {k : Nat} {sp : Sp} (F : Fun K x qual st f fd) (S : FnScope N ps (defScope st)) (len : ∀ vs H Q E, sp vs H Q E -> vs.length = ps.length)
  (hbody : ∀ (cdv : Value) (A : Around) (outer : List Env) (s : Shared) (H : Hp) (vs : List V) (Q : VK) (E : XK), Room k (A.deeper (envOfC qual (defScope st) s.heap.objs.size f cdv)) -> sp vs H Q E ->
   ∃ t, QSs ((cxOf (CXe P w) P w K mg base N qual (defScope st) f cdv A outer s H E).wish fun _ _ => False) (defBody st) t /\ t { nx := fun _ H' => Q .non H', rt := Q } (start N vs) H) : FnOk P w K mg base (CXe P w) (k + 1) f fd ps sp := by
 obtain ⟨oc, od, kV, doc, pm, an, cdv, ct, osl, rfl, lk, hcd⟩ := F.ex
 refine fn_of lk hcd S len fun A outer s H vs Q E hr hsp => ?_
 obtain ⟨t, h, q⟩ := hbody cdv A outer s H vs Q E hr hsp
 exact ⟨t, h.p.nox, q⟩
theorem passE0 {X : Cx} : Passes (CXe P w) X E0 := fun _ _ _ _ _ _ _ ⟨_, _, _, _, _, _, _, _, _, q⟩ => q.elim
end
end L2
set_option Elab.async false
set_option linter.all false
set_option maxRecDepth 100000
set_option maxHeartbeats 4000000
namespace L2
open PySem PySem.Spec PyProof.Rows
end L2
set_option Elab.async false
set_option linter.all false
set_option maxRecDepth 100000
set_option maxHeartbeats 4000000
namespace L2
open PySem PySem.Spec PyProof.Rows
def ExcAt (a C : Addr) (h : Heap) : Prop := ∃ o, h.get? a = some o /\ o.cls = .ref C /\ ∃ vs, o.data = .fields vs
end L2
namespace L2
open PySem PySem.Spec PyProof.Rows
end L2
namespace L2
open PySem PySem.Spec PyProof.Rows
end L2
namespace L2
open PySem PySem.Spec PyProof.Rows
end L2
set_option Elab.async false
set_option linter.all false
set_option maxRecDepth 100000
set_option maxHeartbeats 4000000
namespace L2
open PySem PySem.Spec PyProof.Rows
open Builtin.Str
section
variable {X : Cx}
def rIntS : List V -> Hp -> VK -> Prop := fun xs H Q => ∃ x n, xs = [.str x] /\ PySem.intText? x = some n /\ x.length <= 640 /\ Q (.int n) H
theorem call_intS : CallR X (.type "int") rIntS := by
 intro pins s σ H xs us Q I r h
 obtain ⟨x, n, rfl, hn, hl, q⟩ := h
 obtain ⟨u, rfl, t, rfl⟩ := vals1 r
 exact PySem.W.KIN.call_text hn hl ⟨.int n, H, I.tok _, ⟨_, rfl⟩, q⟩
def rSlS : V -> Option Int -> Option Int -> Hp -> VK -> Prop := fun x lo hi H Q => ∃ y, x = .str y /\ y.length <= sizeLine /\ Q (.str (Txt.slice y lo hi)) H
theorem sl_str : SlR X rSlS := by
 intro pins s σ H x v vl vu lo hi sl Q I rx hs pl pu h
 obtain ⟨y, rfl, hz, q⟩ := h
 obtain ⟨t, rfl⟩ := rx
 refine ⟨"str", _, F.slot_str_getitem.lookup, typeIs_str _ _ _, ?_⟩
 obtain ⟨o, ho, hc, hd⟩ := hs
 have fin : ∀ (l u : Option (Int × Tok)), l.map (·.1) = lo -> u.map (·.1) = hi -> vl = partValue l -> vu = partValue u -> wpAny (model X.prog X.w) X.A (getItem (.str y t) (.ref sl)) (EP X pins σ Q) X.xe s := fun l u e1 e2 e3 e4 => by
  subst e1 e2 e3 e4
  exact wpAny_getItem_str_slice (l := l) (u := u) (st := none) ⟨o, ho, hc, hd⟩ rfl (post_val_or_str ⟨Nat.le_trans (Txt.slice_le y _ _) hz, fun t' k => ⟨.str _, H, I.tok k, ⟨t', rfl⟩, q⟩⟩)
 cases pl with
 | none =>
  cases pu with
  | none => exact fin none none rfl rfl rfl rfl
  | int j u => exact fin none (some (j, u)) rfl rfl rfl rfl
 | int i w =>
  cases pu with
  | none => exact fin (some (i, w)) none rfl rfl rfl rfl
  | int j u => exact fin (some (i, w)) (some (j, u)) rfl rfl rfl rfl
def Its (x : Str) : It := ⟨fun i _ => i < x.cps.size, fun i H v H' => H' = H /\ ∃ c, x.cps[i]? = some c /\ v = .str ⟨#[c]⟩, fun i _ => x.cps.size <= i⟩
theorem turn_str {P : Program} {w : World} {K : PySem.W.Frag} {tg : Expr} (x : Str) (t : Tok) (it : Addr) {ty : String} (hty : ["enumerate", "zip", "dict_itemiterator", "dict_reverseitemiterator", "odict_iterator", "itertools.zip_longest", "itertools.pairwise"].contains ty = false)
  (W : ∀ A' : Around, A'.handled = none -> Walks P w A' it [it] [it] x.cps.size (SignAt x) (fun i h => h.IsStrIter it ty x t i)) (hs : ∀ (A : Around) (i : Nat) (s : Shared) (Q : Value -> Shared -> Prop) (E : Value -> Shared -> Prop), s.heap.IsStrIter it ty x t i -> Q (.ref it) s -> wpAny (model P w) A (pyIter (.ref it)) Q E s) :
  Turn P w K tg (Its x) [it] it (fun i h => i <= x.cps.size /\ h.IsStrIter it ty x t i) where
 mem := by simp
 obj := fun i h st b hb => by
  have e : b = it := by simpa using hb
  subst e
  obtain ⟨_, o, e, c, d⟩ := st
  exact ⟨o, e, fun v z => by rw [d] at z; cases z⟩
 keep := fun i h h' st k => ⟨st.1, (W { } rfl).frame i h h' st.2 k⟩
 item := by
  intro X hP hw hK hc i pins s σ H E I hf st hg
  subst hP hw hK
  obtain ⟨f0, f1, f2, f3, f4, f5⟩ := hf it (by simp)
  refine (W X.A (I.ok.hd hc)).item i s _ _ hg st.2 fun v h' tk hv st' kk => ?_
  obtain ⟨c, u, hc', rfl⟩ := hv
  have I1 : Inv X pins σ H { s with heap := h', toks := tk } := I.turned (fun b o hb e => kk b o (by simpa using hb) e) f0 f1 f3 f4 f5
  obtain ⟨o, e1, e2, e3⟩ := id st'
  exact ⟨_, rfl, go_of (s := { s with heap := h', toks := tk }) e1 e2 e3 hty ⟨.str ⟨#[c]⟩, H, I1, ⟨u, rfl⟩, ⟨rfl, c, hc', rfl⟩, ⟨hg, st'⟩, fun b hb => (hf b hb).1⟩⟩
 done := by
  intro X hP hw hK hc i pins s σ H E I hf st hg
  subst hP hw hK
  obtain ⟨f0, f1, f2, f3, f4, f5⟩ := hf it (by simp)
  have e : i = x.cps.size := Nat.le_antisymm st.1 hg
  subst e
  exact (W X.A (I.ok.hd hc)).done s _ _ st.2 fun h' tk kk => ⟨rfl, I.turned (fun b o hb e => kk b o (by simpa using hb) e) f0 f1 f3 f4 f5⟩
 self := fun A i s Q E st h => hs A i s Q E st.2 h
variable {tg : Expr}
theorem qe_lst {es : List Expr} {aa : TA} {pos : Pos} (h : QA X es aa) : QE X (.List es pos) (tLst aa) := ⟨pe_lst h.p⟩
theorem mt_list_append : MtR X "list.append" rAppend := mt_append
end
end L2
set_option Elab.async false
set_option linter.all false
set_option maxRecDepth 100000
set_option maxHeartbeats 4000000
namespace Tx
open PySem PySem.NumText PyProof.Rows L2
abbrev st (l : List Nat) : Str := ⟨l.toArray⟩
end Tx
namespace Tx
open PySem PySem.NumText PyProof.Rows L2
end Tx
namespace Tx
open PySem PySem.NumText PyProof.Rows L2
end Tx
namespace L2
open PySem PySem.Spec PyProof.Rows Tx
end L2
set_option Elab.async false
set_option linter.all false
set_option maxRecDepth 100000
set_option maxHeartbeats 4000000
namespace L2
open PySem PySem.Spec PyProof.Rows
end L2
namespace Tx
open PySem PySem.NumText PyProof.Rows L2
open Builtin.Str
end Tx
namespace L2
open PySem PySem.Spec PyProof.Rows Tx
end L2
namespace L2
open PySem PySem.Spec PyProof.Rows Tx
end L2
namespace Tx
open PySem PySem.NumText PyProof.Rows L2
end Tx
namespace L2
open PySem PySem.Spec PyProof.Rows Tx
end L2
set_option Elab.async false
set_option linter.all false
set_option maxRecDepth 100000
set_option maxHeartbeats 4000000
namespace Mth
theorem nat_cop_of {a b : Nat} (h : ∀ p, p ∣ a -> p ∣ b -> p ∣ 1) : Nat.Coprime a b :=
 Nat.dvd_one.mp (h _ (Nat.gcd_dvd_left a b) (Nat.gcd_dvd_right a b))
theorem dvd_nat {p : Nat} {x : Int} : p ∣ x.natAbs ↔ (p : Int) ∣ x := by rw [<- Int.natAbs_dvd_natAbs, Int.natAbs_natCast]
theorem dvd_top {p z c : Nat} {x a : Int} (hzc : Nat.Coprime z c) (pz : p ∣ z) (h : (p : Int) ∣ x * (c : Int) + a * (z : Int)) : p ∣ x.natAbs := by
 have h1 : (p : Int) ∣ a * (z : Int) := Int.dvd_trans (Int.natCast_dvd_natCast.mpr pz) (Int.dvd_mul_left _ _)
 have h2 : (p : Int) ∣ x * (c : Int) := (Int.dvd_add_left h1).mp h
 have h3 : p ∣ x.natAbs * c := by
  have := dvd_nat.mpr h2
  rw [Int.natAbs_mul, Int.natAbs_natCast] at this
  exact this
 exact (Nat.Coprime.coprime_dvd_left pz hzc).dvd_of_dvd_mul_right h3
theorem place_sum {x y z a b c : Int} (hz : 0 < z) (hc : 0 < c) (h1 : Int.gcd ((Int.gcd x y : Nat) : Int) z = 1) (h2 : Int.gcd ((Int.gcd a b : Nat) : Int) c = 1)
  {g u v r : Int} (eg : g = ((Int.gcd z c : Nat) : Int)) (eu : u = x * (c / g) + a * (z / g)) (ev : v = y * (c / g) + b * (z / g)) (er : r = ((Int.gcd ((Int.gcd g u : Nat) : Int) v : Nat) : Int)) :
  0 < g /\ 0 < r /\ g.natAbs <= z.natAbs /\ r.natAbs <= z.natAbs /\ Plc (x * c + a * z) (y * c + b * z) (z * c) (u / r) (v / r) (z / g * (c / r)) := by
 have gp := (Int.gcd_pos_iff (a := z) (b := c)).mpr (.inl (by omega))
 have hg : 0 < g := by omega
 have gz : g ∣ z := eg ▸ Int.gcd_dvd_left z c
 have gc : g ∣ c := eg ▸ Int.gcd_dvd_right z c
 have e3 : r = g3 u v g := er
 have hr : 0 < r := e3 ▸ g3_pos hg
 have rg : r ∣ g := e3 ▸ g3_dvd_b u v g
 have ru : r ∣ u := e3 ▸ g3_dvd_x u v g
 have rv : r ∣ v := e3 ▸ g3_dvd_y u v g
 obtain ⟨z', ez⟩ := gz
 obtain ⟨c', ec⟩ := gc
 obtain ⟨g', eg'⟩ := rg
 obtain ⟨u', eu'⟩ := ru
 obtain ⟨v', ev'⟩ := rv
 have q1 : z / g = z' := by rw [ez]; exact Int.mul_ediv_cancel_left z' (by omega)
 have q2 : c / g = c' := by rw [ec]; exact Int.mul_ediv_cancel_left c' (by omega)
 have q3 : u / r = u' := by rw [eu']; exact Int.mul_ediv_cancel_left u' (by omega)
 have q4 : v / r = v' := by rw [ev']; exact Int.mul_ediv_cancel_left v' (by omega)
 have q5 : c / r = g' * c' := by rw [ec, eg', Int.mul_assoc]; exact Int.mul_ediv_cancel_left _ (by omega)
 rw [q1, q2] at eu ev
 rw [q1, q3, q4, q5]
 have hz' : 0 < z' := by
  rcases (show z' <= 0 \/ 0 < z' by omega) with h | h
  ·have := Int.mul_nonpos_of_nonneg_of_nonpos (Int.le_of_lt hg) h; omega
  ·exact h
 have hc' : 0 < c' := by
  rcases (show c' <= 0 \/ 0 < c' by omega) with h | h
  ·have := Int.mul_nonpos_of_nonneg_of_nonpos (Int.le_of_lt hg) h; omega
  ·exact h
 have hg' : 0 < g' := by
  rcases (show g' <= 0 \/ 0 < g' by omega) with h | h
  ·have := Int.mul_nonpos_of_nonneg_of_nonpos (Int.le_of_lt hr) h; omega
  ·exact h
 have czc : Nat.Coprime z'.natAbs c'.natAbs := by
  have q := Int.gcd_mul_left g z' c'
  rw [<- ez, <- ec] at q
  have q' : g.natAbs * 1 = g.natAbs * Int.gcd z' c' := by omega
  exact (Nat.eq_of_mul_eq_mul_left (by omega) q').symm
 have cg : Nat.gcd (Nat.gcd g'.natAbs u'.natAbs) v'.natAbs = 1 := by
  have n1 := congrArg Int.natAbs eg'
  have n2 := congrArg Int.natAbs eu'
  have n3 := congrArg Int.natAbs ev'
  rw [Int.natAbs_mul] at n1 n2 n3
  have er' : r.natAbs = Nat.gcd (Nat.gcd g.natAbs u.natAbs) v.natAbs := by rw [er, Int.natAbs_natCast, gcd_cast]
  rw [n1, n2, n3, Nat.gcd_mul_left, Nat.gcd_mul_left] at er'
  have : r.natAbs * 1 = r.natAbs * Nat.gcd (Nat.gcd g'.natAbs u'.natAbs) v'.natAbs := by omega
  exact (Nat.eq_of_mul_eq_mul_left (by omega) this).symm
 have hzn : ((z'.natAbs : Nat) : Int) = z' := Int.natAbs_of_nonneg (by omega)
 have hcn : ((c'.natAbs : Nat) : Int) = c' := Int.natAbs_of_nonneg (by omega)
 have big : ∀ {p : Nat}, p ∣ u'.natAbs -> (p : Int) ∣ u := fun h => eu' ▸ Int.dvd_trans (dvd_nat.mp h) (Int.dvd_mul_left _ _)
 have big2 : ∀ {p : Nat}, p ∣ v'.natAbs -> (p : Int) ∣ v := fun h => ev' ▸ Int.dvd_trans (dvd_nat.mp h) (Int.dvd_mul_left _ _)
 have k1 : Nat.Coprime (Nat.gcd u'.natAbs v'.natAbs) z'.natAbs := by
  refine nat_cop_of fun p p1 p2 => ?_
  have pu := big (Nat.dvd_trans p1 (Nat.gcd_dvd_left _ _))
  have pv := big2 (Nat.dvd_trans p1 (Nat.gcd_dvd_right _ _))
  rw [eu, <- hzn, <- hcn] at pu
  rw [ev, <- hzn, <- hcn] at pv
  have pz : p ∣ z.natAbs := by rw [ez, Int.natAbs_mul]; exact Nat.dvd_trans p2 (Nat.dvd_mul_left _ _)
  have := Nat.dvd_gcd (Nat.dvd_gcd (dvd_top czc p2 pu) (dvd_top czc p2 pv)) pz
  rw [gcd_cast] at h1
  rw [h1] at this
  exact this
 have k2 : Nat.Coprime (Nat.gcd u'.natAbs v'.natAbs) c'.natAbs := by
  refine nat_cop_of fun p p1 p2 => ?_
  have pu := big (Nat.dvd_trans p1 (Nat.gcd_dvd_left _ _))
  have pv := big2 (Nat.dvd_trans p1 (Nat.gcd_dvd_right _ _))
  rw [eu, <- hzn, <- hcn, Int.add_comm] at pu
  rw [ev, <- hzn, <- hcn, Int.add_comm] at pv
  have pz : p ∣ c.natAbs := by rw [ec, Int.natAbs_mul]; exact Nat.dvd_trans p2 (Nat.dvd_mul_left _ _)
  have := Nat.dvd_gcd (Nat.dvd_gcd (dvd_top czc.symm p2 pu) (dvd_top czc.symm p2 pv)) pz
  rw [gcd_cast] at h2
  rw [h2] at this
  exact this
 have k3 : Nat.Coprime (Nat.gcd u'.natAbs v'.natAbs) g'.natAbs := by
  refine nat_cop_of fun p p1 p2 => ?_
  have := Nat.dvd_gcd (Nat.dvd_gcd p2 (Nat.dvd_trans p1 (Nat.gcd_dvd_left _ _))) (Nat.dvd_trans p1 (Nat.gcd_dvd_right _ _))
  rw [cg] at this
  exact this
 have eX : x * c + a * z = g * r * u' := by rw [Int.mul_assoc, <- eu', eu, ec, ez]; grind
 have eY : y * c + b * z = g * r * v' := by rw [Int.mul_assoc, <- ev', ev, ec, ez]; grind
 have eZ : z * c = g * r * (z' * (g' * c')) := by rw [ez, ec]; generalize g = G at eg' ⊢; subst eg'; grind
 have hgr : 0 < g * r := Int.mul_pos hg hr
 have small : ∀ k : Int, k.natAbs <= (g * r * k).natAbs := fun k => by
  rw [Int.natAbs_mul]
  exact Nat.le_mul_of_pos_left _ (by omega)
 refine ⟨hg, hr, Nat.le_of_dvd (by omega) (Int.natAbs_dvd_natAbs.mpr ⟨z', ez⟩), Nat.le_of_dvd (by omega) (Int.natAbs_dvd_natAbs.mpr ⟨g' * z', by rw [ez, eg', Int.mul_assoc]⟩), ?_, ?_, ?_, ?_, ?_, ?_, ?_⟩
 ·have := Int.mul_pos hz' (Int.mul_pos hg' hc')
  omega
 ·rw [gcd_cast, Int.natAbs_mul, Int.natAbs_mul]
  exact Nat.Coprime.mul_right k1 (Nat.Coprime.mul_right k3 k2)
 ·rw [eX, eZ]; grind
 ·rw [eY, eZ]; grind
 ·rw [eX]; exact small _
 ·rw [eY]; exact small _
 ·rw [eZ]; exact small _
end Mth
set_option Elab.async false
set_option linter.all false
set_option maxRecDepth 100000
set_option maxHeartbeats 4000000
namespace L2
open PySem PySem.Spec PyProof.Rows
section
variable {prog : Program} {w : World} {A : Around} {R : Result -> Shared -> Prop} {s : Shared}
def TestP (M : Model) (A : Around) (ct : Option Expr) (env : Env) (Q : Bool -> Shared -> Prop) (E : Value -> Shared -> Prop) (s : Shared) : Prop :=
 match ct with
 | none => Q true s
 | some c => wpAny M A (isTrue c env (eval c env)) Q E s
theorem compLoop_opt {elt target iter : Expr} {ct : Option Expr} {scope : Scope} {pos : Pos} {it acc : Value} {env : Env} (I : Nat -> Shared -> Prop)
  (turn : ∀ n s, I n s -> wpAny (model prog w) A (pyNext it) (fun r s1 => match r with
   | none => R (.ok .next) s1
   | some v => wpAny (model prog w) A (letOwnedTupleGo target it v) (fun _ s5 => wpAny (model prog w) A (assign target env v) (fun _ s2 => TestP (model prog w) A ct env (fun ok s3 => if ok = true then wpAny (model prog w) A (eval elt env) (fun x s4 =>
     wpAny (model prog w) A (call (.builtin "list.append") [acc, x]) (fun _ s6 => ∃ m, m < n /\ I m s6) (notedBy (model prog w) A env fun e s' => R (.error e) s') s4)
     (notedBy (model prog w) A env fun e s' => R (.error e) s') s3 else ∃ m, m < n /\ I m s3) (notedBy (model prog w) A env fun e s' => R (.error e) s') s2) (notedBy (model prog w) A env fun e s' => R (.error e) s') s5) (notedBy (model prog w) A env fun e s' => R (.error e) s') s1) (notedBy (model prog w) A env fun e s' => R (.error e) s') s)
  (n : Nat) (h : I n s) :
  codeAny (model prog w) A (.compLoop (.ListComp elt [⟨target, iter, ct.toList, 0⟩] scope pos) 0 it acc env) R s := by
 refine codeAny_loop rfl I (fun n s hI => ?_) n h
 show wpAny _ _ ((compTurn (.ListComp elt [⟨target, iter, ct.toList, 0⟩] scope pos) 0 it acc env).onRaise (fun x => do noteFrame x env; theTreesLotGoes x)) _ _ s
 refine wpAny_noted ?_
 rw [compTurn_list]
 refine wpAny_bind (wpAny_standAt (wpAny_bind (wpAny_mono (turn n s hI) (fun r s1 h1 => ?_) fun _ _ h' => h')))
 cases r with
 | none => exact wpAny_pure h1
 | some v =>
  refine wpAny_bind (wpAny_mono h1 (fun _ s5 h5 => ?_) fun _ _ h' => h')
  refine wpAny_bind (wpAny_mono h5 (fun _ s2 h2 => ?_) fun _ _ h' => h')
  cases ct with
  | none =>
   refine wpAny_bind (wpAny_mono (wpAny_tests_nil (Q := fun ok s3 => ok = true /\ s3 = s2) ⟨rfl, rfl⟩) (fun ok s3 h3 => ?_) fun _ _ h' => h')
   obtain ⟨rfl, rfl⟩ := h3
   have h2' := h2
   simp only [TestP, if_true] at h2'
   exact wpAny_bind (wpAny_bind (wpAny_mono h2' (fun x s4 h4 => wpAny_bind (wpAny_mono h4 (fun _ s6 h6 => wpAny_pure (wpAny_pure ⟨rfl, h6⟩)) fun _ _ h' => h')) fun _ _ h' => h'))
  | some c =>
   refine wpAny_bind (wpAny_tests_one (wpAny_mono (show wpAny (model prog w) A (isTrue c env (eval c env)) _ _ _ from h2) (fun okb s3 h3 => ?_) fun _ _ h' => h'))
   cases okb with
   | false => exact wpAny_pure ⟨rfl, by simpa using h3⟩
   | true =>
    have h3' := h3
    simp only [if_true] at h3'
    exact wpAny_bind (wpAny_bind (wpAny_mono h3' (fun x s4 h4 => wpAny_bind (wpAny_mono h4 (fun _ s6 h6 => wpAny_pure (wpAny_pure ⟨rfl, h6⟩)) fun _ _ h' => h')) fun _ _ h' => h'))
end
def cloOf (env : Env) (names : List (Str × NameKind)) (acc : List (Str × Addr)) : List (Str × Addr) := names.foldl (fun c x => if x.2 == .free then (x.1, (env.cells.lookup x.1).getD 0) :: c else c) acc
theorem forIn_fold {α β : Type} {f : α -> β -> Sem (ForInStep β)} {g : α -> β -> β} : ∀ (l : List α) (b : β), (∀ x ∈ l, ∀ c, f x c = pure (.yield (g x c))) -> forIn l b f = (pure (l.foldl (fun c x => g x c) b) : Sem β)
 | [], b, _ => rfl
 | x :: l, b, h => by
  rw [List.forIn_cons, h x List.mem_cons_self, pure_bind]
  exact forIn_fold l (g x b) fun y hy => h y (List.mem_cons_of_mem _ hy)
theorem closureFor_of {scope : Scope} {env : Env} (h : ∀ x ∈ scope.names, x.2 = .free -> ∃ c, env.cells.lookup x.1 = some c) : closureFor scope env = pure (cloOf env scope.names []) := by
 simp only [closureFor]
 rw [forIn_fold (g := fun x c => if x.2 == .free then (x.1, (env.cells.lookup x.1).getD 0) :: c else c) scope.names [] (fun x hx c => by
  obtain ⟨n, kind⟩ := x
  by_cases hk : kind = .free
  ·subst hk
   obtain ⟨a, ha⟩ := h _ hx rfl
   have e : cellOf env n = pure a := by unfold cellOf; rw [ha]
   simp [e, ha]
  ·have : (kind == NameKind.free) = false := by simpa using hk
   simp [this])]
 rfl
theorem mem_clo {env : Env} {y : Str} {c : Addr} : ∀ {names : List (Str × NameKind)} {acc : List (Str × Addr)}, (y, c) ∈ cloOf env names acc ↔ (y, c) ∈ acc \/ ((y, NameKind.free) ∈ names /\ c = (env.cells.lookup y).getD 0)
 | [], acc => by simp [cloOf]
 | (n, k) :: r, acc => by
  show (y, c) ∈ cloOf env r (if k == .free then (n, (env.cells.lookup n).getD 0) :: acc else acc) ↔ _
  rw [mem_clo]
  by_cases hk : k = .free
  ·subst hk
   simp only [beq_self_eq_true, if_true, List.mem_cons, Prod.mk.injEq]
   constructor
   ·rintro ((⟨rfl, rfl⟩ | h) | ⟨h1, h2⟩)
    ·exact .inr ⟨.inl (by simp), rfl⟩
    ·exact .inl h
    ·exact .inr ⟨.inr h1, h2⟩
   ·rintro (h | ⟨⟨rfl, _⟩ | h1, h2⟩)
    ·exact .inl (.inr h)
    ·exact .inl (.inl ⟨rfl, h2⟩)
    ·exact .inr ⟨h1, h2⟩
  ·have : (k == NameKind.free) = false := by simpa using hk
   simp only [this, Bool.false_eq_true, if_false, List.mem_cons, Prod.mk.injEq]
   constructor
   ·rintro (h | ⟨h1, h2⟩)
    ·exact .inl h
    ·exact .inr ⟨.inr h1, h2⟩
   ·rintro (h | ⟨⟨_, h⟩ | h1, h2⟩)
    ·exact .inl h
    ·exact absurd h.symm hk
    ·exact .inr ⟨h1, h2⟩
theorem lookup_mem {β : Type} {y : Str} {c : β} : ∀ {l : List (Str × β)}, l.lookup y = some c -> (y, c) ∈ l
 | [], h => by simp at h
 | (n, j) :: r, h => by
  rw [List.lookup_cons] at h
  by_cases e : y = n
  ·subst e
   simp at h
   subst h
   exact List.mem_cons_self
  ·have : (y == n) = false := by simpa using e
   rw [this] at h
   exact List.mem_cons_of_mem _ (lookup_mem h)
theorem mem_lookup_some {β : Type} {y : Str} {c : β} : ∀ {l : List (Str × β)}, (y, c) ∈ l -> ∃ d, l.lookup y = some d
 | (n, j) :: r, h => by
  rw [List.lookup_cons]
  by_cases e : y = n
  ·subst e
   simp
  ·have : (y == n) = false := by simpa using e
   rw [this]
   rcases List.mem_cons.mp h with h | h
   ·exact absurd (congrArg Prod.fst h) e
   ·exact mem_lookup_some h
theorem lookup_relabel {env : Env} : ∀ {names : List (Str × NameKind)} {x : Str} {k : NameKind}, (names.map fun (n, k) => if (k == NameKind.free && env.scope.kind == .function && env.kindOf n == some .cell) then (n, NameKind.cell) else (n, k)).lookup x = some k ->
  names.lookup x = some k \/ (k = .cell /\ names.lookup x = some .free)
 | [], _, _, h => by simp at h
 | (n, j) :: r, x, k, h => by
  have ih := @lookup_relabel env r x k
  have h' : List.lookup x ((if (j == NameKind.free && env.scope.kind == .function && env.kindOf n == some .cell) = true then (n, NameKind.cell) else (n, j)) :: (r.map fun (n, k) => if (k == NameKind.free && env.scope.kind == .function && env.kindOf n == some .cell) then (n, NameKind.cell) else (n, k))) = some k := h
  by_cases hc : (j == NameKind.free && env.scope.kind == .function && env.kindOf n == some .cell) = true
  ·rw [if_pos hc] at h'
   have hj : j = .free := by
    have := hc
    simp only [Bool.and_eq_true, beq_iff_eq] at this
    exact this.1.1
   cases hx : x == n with
   | true =>
    simp only [List.lookup_cons, hx] at h' ⊢
    exact .inr ⟨(Option.some.inj h').symm, by rw [hj]⟩
   | false =>
    simp only [List.lookup_cons, hx] at h' ⊢
    exact ih h'
  ·rw [if_neg hc] at h'
   cases hx : x == n with
   | true =>
    simp only [List.lookup_cons, hx] at h' ⊢
    exact .inl h'
   | false =>
    simp only [List.lookup_cons, hx] at h' ⊢
    exact ih h'
theorem lookup_relabel_free {env : Env} : ∀ {names : List (Str × NameKind)} {x : Str}, names.lookup x = some .free ->
  (names.map fun (n, k) => if (k == NameKind.free && env.scope.kind == .function && env.kindOf n == some .cell) then (n, NameKind.cell) else (n, k)).lookup x = some .cell \/
  (names.map fun (n, k) => if (k == NameKind.free && env.scope.kind == .function && env.kindOf n == some .cell) then (n, NameKind.cell) else (n, k)).lookup x = some .free
 | [], _, h => by simp at h
 | (n, j) :: r, x, h => by
  have ih := @lookup_relabel_free env r x
  show List.lookup x ((if (j == NameKind.free && env.scope.kind == .function && env.kindOf n == some .cell) = true then (n, NameKind.cell) else (n, j)) :: _) = _ \/ List.lookup x ((if (j == NameKind.free && env.scope.kind == .function && env.kindOf n == some .cell) = true then (n, NameKind.cell) else (n, j)) :: _) = _
  cases hx : x == n with
  | true =>
   simp only [List.lookup_cons, hx] at h
   cases h
   by_cases hc : (NameKind.free == NameKind.free && env.scope.kind == .function && env.kindOf n == some .cell) = true
   ·rw [if_pos hc]; simp [List.lookup_cons, hx]
   ·rw [if_neg hc]; simp [List.lookup_cons, hx]
  | false =>
   simp only [List.lookup_cons, hx] at h
   by_cases hc : (j == NameKind.free && env.scope.kind == .function && env.kindOf n == some .cell) = true
   ·rw [if_pos hc]; simp only [List.lookup_cons, hx]; exact ih h
   ·rw [if_neg hc]; simp only [List.lookup_cons, hx]; exact ih h
@[reducible] def Cx.compG (X : Cx) (scope : Scope) (N' : List Str) (C : Addr) (s : Shared) (H : Hp) (fp : List Addr) : Cx :=
 { X with N := N', s₀ := s, H₀ := H, env := compEnvC scope (cloOf X.env scope.names []) C X.env, outer := X.stack, stack := X.stack, ex := fp, pn := [], fn := fun y => ((cloOf X.env scope.names []).lookup y).isNone, xe := fun _ _ => False }
def tTrue : TT := fun _ H Q => Q true H
def LcG (J : It) (g : TG) (tc : TT) (te : TE) (Q : VK) (σ0 : St) (H1 : Hp) : Prop := ∃ W : Nat -> Nat -> List V -> St -> Hp -> Prop, (∃ m, W 0 m [] σ0 H1) /\ ∀ i m ys σ H, W i m ys σ H ->
 ys.length < sizeLine /\ ((J.stop i H /\ ∀ p, H p = none -> Q (.ref p) (upd H p (.lst ys))) \/ (J.go i H /\ ∀ x H', J.yld i H x H' -> g x σ H' fun σ1 H1 => tc σ1 H1 fun b H2 => if b = true then te σ1 H2 fun y H3 => ∃ m', m' < m /\ W (i + 1) m' (ys ++ [y]) σ1 H3 else ∃ m', m' < m /\ W (i + 1) m' ys σ1 H2))
def tLcG (wi : TI) (g : TG) (tc : TT) (te : TE) (nt : Nat) (js : List Nat) : TE := fun σ H Q => wi σ H fun J H1 => LcG J g tc te Q (List.replicate nt none ++ js.map fun j => (σ[j]?).getD none) H1
def capOk (N' xn : List Str) (nt : Nat) (js : List Nat) (names onames : List (Str × NameKind)) : Bool :=
 N'.length == nt + js.length && (js.zipIdx.all fun p => match N'[nt + p.2]? with
  | some y => xn[p.1]? == some y && names.lookup y == some .free
  | none => false) && names.all (fun x => x.2 != .cell && (x.2 != .local || names.lookup x.1 == some .local) && (x.2 != .free || ((onames.lookup x.1 == some .cell || onames.lookup x.1 == some .free))))
section
variable {X : Cx} {pins : List (Addr × Obj)} {σ : St} {H : Hp} {s : Shared}
structure CapOk (X : Cx) (N' : List Str) (nt : Nat) (js : List Nat) (scope : Scope) : Prop where
 len : N'.length = nt + js.length
 cap : ∀ k j, js[k]? = some j -> ∃ y, N'[nt + k]? = some y /\ X.N[j]? = some y /\ scope.names.lookup y = some .free
 nocell : ∀ y ∈ scope.names, y.2 ≠ .cell
 loc : ∀ y ∈ scope.names, y.2 = .local -> scope.names.lookup y.1 = some .local
 free : ∀ y ∈ scope.names, y.2 = .free -> X.env.kindOf y.1 = some .cell \/ X.env.kindOf y.1 = some .free
theorem capOk.ok {N' xn : List Str} {nt : Nat} {js : List Nat} {scope osc : Scope} (hxn : X.N = xn) (hosc : X.env.scope = osc) (h : capOk N' xn nt js scope.names osc.names = true) : CapOk X N' nt js scope := by
 unfold capOk at h
 simp only [Bool.and_eq_true, beq_iff_eq] at h
 obtain ⟨⟨h1, h2⟩, h3⟩ := h
 rw [List.all_eq_true] at h2 h3
 have h3' : ∀ y ∈ scope.names, y.2 ≠ .cell /\ (y.2 = .local -> scope.names.lookup y.1 = some .local) /\ (y.2 = .free -> osc.names.lookup y.1 = some .cell \/ osc.names.lookup y.1 = some .free) := fun y hy => by
  have := h3 y hy
  simp only [Bool.and_eq_true, Bool.or_eq_true, bne_iff_ne, beq_iff_eq] at this
  refine ⟨this.1.1, fun z => ?_, fun z => ?_⟩
  ·rcases this.1.2 with q | q
   ·exact absurd z q
   ·exact q
  ·rcases this.2 with q | q
   ·exact absurd z q
   ·exact q
 refine ⟨h1, fun k j hk => ?_, fun y hy => (h3' y hy).1, fun y hy => (h3' y hy).2.1, fun y hy z => ?_⟩
 ·have hm : (j, k) ∈ js.zipIdx := by
   rw [List.mem_zipIdx_iff_getElem?]
   exact hk
  have := h2 (j, k) hm
  cases e : N'[nt + k]? with
  | none => simp only [e] at this; cases this
  | some y =>
   simp only [e, Bool.and_eq_true, beq_iff_eq] at this
   exact ⟨y, rfl, by rw [hxn]; exact this.1, this.2⟩
 ·show X.env.scope.names.lookup y.1 = some .cell \/ X.env.scope.names.lookup y.1 = some .free
  rw [hosc]
  exact (h3' y hy).2.2 z
theorem CapOk.cells {N' : List Str} {nt : Nat} {js : List Nat} {scope : Scope} (c : CapOk X N' nt js scope) (I : Inv X pins σ H s) : ∀ x ∈ scope.names, x.2 = .free -> ∃ a, X.env.cells.lookup x.1 = some a := fun x hx hf => I.ok.has x.1 (c.free x hx hf)
theorem CapOk.clo {N' : List Str} {nt : Nat} {js : List Nat} {scope : Scope} (c : CapOk X N' nt js scope) (I : Inv X pins σ H s) {y : Str} {a : Addr} (h : (cloOf X.env scope.names []).lookup y = some a) : X.env.cells.lookup y = some a /\ (y, NameKind.free) ∈ scope.names := by
 rcases mem_clo.mp (lookup_mem h) with z | ⟨z1, z2⟩
 ·simp at z
 ·obtain ⟨b, hb⟩ := c.cells I (y, .free) z1 rfl
  have hb' : X.env.cells.lookup y = some b := hb
  rw [hb'] at z2
  exact ⟨by rw [hb', z2]; rfl, z1⟩
theorem CapOk.has {N' : List Str} {nt : Nat} {js : List Nat} {scope : Scope} (c : CapOk X N' nt js scope) (I : Inv X pins σ H s) {y : Str} (h : (y, NameKind.free) ∈ scope.names) : ∃ a, (cloOf X.env scope.names []).lookup y = some a :=
 mem_lookup_some (c := (X.env.cells.lookup y).getD 0) (mem_clo.mpr (.inr ⟨h, rfl⟩))
theorem Inv.compG {scope : Scope} {N' : List Str} {nt : Nat} {js : List Nat} {C : Addr} {fp : List Addr} {h1 : Heap} {t1 : Nat} (I : Inv X pins σ H s) (hk : scope.kind = .function) (c : CapOk X N' nt js scope)
  (hC : s.heap.objs.size <= C) (hfp : ∀ b ∈ fp, FpOk X pins H b) (hfo : ∀ b ∈ fp, b < s.heap.objs.size) (keep : ∀ b o, s.heap.get? b = some o -> h1.get? b = some o) (hns : ∃ m, h1.Ns C m) (hc : X.calm = true) :
  Inv (X.compG scope N' C s H fp) [] (List.replicate nt none ++ js.map fun j => (σ[j]?).getD none) H { s with heap := h1, toks := t1 } := by
 have nofs : ∀ b ∈ fp, b ∉ frs X.stack := fun b hb z => by
  rcases List.mem_cons.mp (I.stkSub b z) with q | q
  ·exact (hfp b hb).2.1 q
  ·exact (hfp b hb).2.2.1 q
 have nobase : ∀ b o, X.base.get? b = some o -> b ∉ fp := fun b o e hb => by
  have e2 := (I.ok.bs b o e).1
  rcases (hfp b hb).2.2.2.1 with z | z
  ·exact I.ok.noex b o e z
  ·exact absurd (Nat.lt_of_lt_of_le (Heap.lt_size e2) z) (Nat.lt_irrefl _)
 have kd : ∀ {y : Str}, ((compEnvC scope (cloOf X.env scope.names []) C X.env).kindOf y = some .cell \/ (compEnvC scope (cloOf X.env scope.names []) C X.env).kindOf y = some .free) -> (y, NameKind.free) ∈ scope.names := fun {y} q => by
  rcases q with q | q
  ·rcases lookup_relabel (env := X.env) q with z | ⟨_, z⟩
   ·exact absurd rfl (c.nocell _ (lookup_mem z))
   ·exact lookup_mem z
  ·rcases lookup_relabel (env := X.env) q with z | ⟨z, _⟩
   ·exact lookup_mem z
   ·cases z
 have cell : ∀ {a : Addr} {v : Option Value}, s.heap.IsCell a v -> h1.IsCell a v := fun ⟨o, ho, hd⟩ => ⟨o, keep _ _ ho, hd⟩
 obtain ⟨m1, hm1⟩ := hns
 refine ⟨⟨I.ok.mod, hk, I.ok.glob, I.ok.blt, hC, (fun y z a e1 e2 => I.ok.inj y z a (c.clo I e1).1 (c.clo I e2).1), (fun y q => c.has I (kd q)), (fun y a hf e => ?_), (fun _ => I.ok.hd hc), I.ok.frames, .inl rfl, (fun b hb => ⟨Nat.ne_of_lt (Nat.lt_of_lt_of_le (hfo b hb) hC), (fun y a e => (hfp b hb).2.2.2.2.1 y a (c.clo I e).1)⟩), (fun b o e => ⟨I.bk b o e, (I.bs b o e).2⟩), Nat.le_trans I.ok.bsz I.sz, nobase, nofs, I.stack, I.stkFree⟩,
  rfl, I.bare, Un.kept keep, ⟨m1, hm1, (fun i y v e1 e2 hv => ?_)⟩, (fun y a e => ?_), I.hok.fresh hC, (fun y a e => I.freeC y a (c.clo I e).1), (fun p hp => by simp at hp), I.hok.kept keep, ?_⟩
 ·have hf' : ((cloOf X.env scope.names []).lookup y).isNone = true := hf
  have e' : (cloOf X.env scope.names []).lookup y = some a := e
  rw [e'] at hf'
  cases hf'
 ·rcases Nat.lt_or_ge i nt with hi | hi
  ·rw [List.getElem?_append_left (by simpa using hi), List.getElem?_replicate] at e2
   rw [if_pos hi] at e2
   cases e2
  ·rw [List.getElem?_append_right (by simpa using hi), List.length_replicate, List.getElem?_map] at e2
   cases ej : js[i - nt]? with
   | none => rw [ej] at e2; cases e2
   | some j =>
    rw [ej] at e2
    obtain ⟨y', q1, q2, q3⟩ := c.cap _ _ ej
    have hi' : nt + (i - nt) = i := by omega
    rw [hi'] at q1
    have e1' : N'[i]? = some y := e1
    rw [q1] at e1'
    cases e1'
    have e2 : some ((σ[j]?).getD none) = some (some v) := e2
    have hσ : σ[j]? = some (some v) := by
     cases ez : σ[j]? with
     | none => rw [ez] at e2; cases e2
     | some z => rw [ez] at e2; exact congrArg some (Option.some.inj e2)
    have hkX := c.free _ (lookup_mem q3) rfl
    obtain ⟨m, hn, hl⟩ := I.loc
    obtain ⟨u, r, l⟩ := hl j y v q2 hσ (.inr hkX)
    refine ⟨u, r, .inr ⟨lookup_relabel_free (env := X.env) q3, ?_⟩⟩
    rcases l with ⟨l, _⟩ | ⟨_, a, ha, hcell⟩
    ·have l' : X.env.kindOf y = some .local := l
     rcases hkX with z | z
     ·rw [l'] at z; cases z
     ·rw [l'] at z; cases z
    ·obtain ⟨b, hb⟩ := c.has I (lookup_mem q3)
     have := (c.clo I hb).1
     rw [ha] at this
     cases this
     exact ⟨a, hb, cell hcell⟩
 ·obtain ⟨v, z⟩ := I.cell y a (c.clo I e).1
  exact ⟨v, cell z⟩
 ·show (List.replicate nt none ++ js.map fun j => (σ[j]?).getD none).length = N'.length
  rw [List.length_append, List.length_replicate, List.length_map, c.len]
theorem pe_lcG {elt iter target : Expr} {ct : Option Expr} {pos : Pos} {scope : Scope} {wi : TI} {g : TG} {tc : TT} {te : TE} {N' : List Str} {nt : Nat} {js : List Nat} (hc : X.calm = true) (hi : PI X target iter wi) (hk : scope.kind = .function) (cp : CapOk X N' nt js scope)
  (hg : ∀ (C : Addr) (s : Shared) (H : Hp) (fp : List Addr), PG (X.compG scope N' C s H fp) target g)
  (ht : match ct with
   | none => tc = tTrue
   | some c => ∀ (C : Addr) (s : Shared) (H : Hp) (fp : List Addr), PT (X.compG scope N' C s H fp) c tc)
  (he : ∀ (C : Addr) (s : Shared) (H : Hp) (fp : List Addr), PE (X.compG scope N' C s H fp) elt te) (hs : ∀ x, foldedSetIterable iter X.env x = pure x := by intro _; rfl) : PE X (.ListComp elt [⟨target, iter, ct.toList, 0⟩] scope pos) (tLcG wi g tc te nt js) := by
 intro pins s σ H Q I h
 rw [eval_ListComp]
 refine wpAny_comprehension_free (use := none) rfl hs (closureFor_of (cp.cells I)) hk cp.loc (thn (hi pins s σ H _ I h) fun v s1 h1 => thn h1 fun itv s2 h2 => ?_)
 obtain ⟨it, fp, tn, J, H2, e, I2, T, st2, f2, W, ⟨m0, w0⟩, turn⟩ := h2
 subst e
 have hfo : ∀ b ∈ fp, b < s2.heap.objs.size := fun b hb => by
  obtain ⟨o, e, _⟩ := T.obj _ _ st2 b hb
  exact Heap.lt_size e
 refine wpAny_newObj_type (wpAny_newFunctionEnv cp.nocell (by intro y hy; simp at hy) (fun g1 hns1 hsb1 => ?_) hk)
 dsimp only at hns1 hsb1 ⊢
 generalize hG2 : s2.heap.push { cls := .type "list", dict := none, data := .seq ([] : List Value).toArray } = G2 at hns1 hsb1 ⊢
 have hC : G2.objs.size = s2.heap.objs.size + 1 := by rw [<- hG2, Heap.size_push]
 have hDC : s2.heap.objs.size ≠ G2.objs.size := by rw [hC]; exact Nat.ne_of_lt (Nat.lt_succ_self _)
 have below : ∀ b, b < s2.heap.objs.size -> b ≠ G2.objs.size /\ b ≠ s2.heap.objs.size := fun b hb => ⟨by rw [hC]; exact Nat.ne_of_lt (Nat.lt_succ_of_lt hb), Nat.ne_of_lt hb⟩
 have old : ∀ b o, s2.heap.get? b = some o -> g1.get? b = some o := fun b o e => hsb1.extBut b o (below b (Heap.lt_size e)).1 (Heap.get?_push_of_some _ (hG2 ▸ Heap.get?_push_of_some _ e))
 have hacc : g1.get? s2.heap.objs.size = some { cls := .type "list", data := .seq ([] : List Value).toArray 0 } := hsb1.extBut _ _ hDC (Heap.get?_push_of_some _ (hG2 ▸ Heap.get?_push_size _ rfl))
 have hCge : s2.heap.objs.size <= G2.objs.size := by rw [hC]; exact Nat.le_succ _
 have cellD : ∀ y a, X.env.cells.lookup y = some a -> a < s2.heap.objs.size := fun y a e => by
  obtain ⟨v, o, ho, _⟩ := I2.cell y a e
  exact Heap.lt_size ho
 generalize hCC : G2.objs.size = C at *
 generalize hDD : s2.heap.objs.size = D at *
 let Y : Cx := X.compG scope N' C s2 H2 fp
 have IY : Inv Y [] (List.replicate nt none ++ js.map fun j => (σ[j]?).getD none) H2 { s2 with heap := g1, toks := s2.toks + ([] : List (Str × Value)).length } := I2.compG hk cp (by rw [hDD]; exact hCge) f2 (by rw [hDD]; exact hfo) old ⟨_, hns1⟩ hc
 have fpD : ∀ b ∈ fp, b ≠ D := fun b hb => (below b (hfo b hb)).2
 have fpC : ∀ b ∈ fp, b ≠ C := fun b hb => (below b (hfo b hb)).1
 have H2D : H2 D = none := I2.hok.fresh (by rw [hDD]; exact Nat.le_refl _)
 have Dnf : D ∉ frs X.stack := fun z => by
  obtain ⟨_, o, e, _⟩ := I2.stack.mem z
  exact absurd (Heap.lt_size e) (by rw [hDD]; exact Nat.lt_irrefl _)
 have stat : ∀ {H' : Hp} {pl : List (Addr × Obj)}, (∀ b ∈ fp, H' b = none) -> (∀ p ∈ pl, p.1 = D) -> ∀ b ∈ fp, FpOk Y pl H' b := fun hn hp b hb => ⟨hn b hb, fpC b hb, (fun z => IY.ok.exfs b hb z), .inl hb, (fun y a e => (f2 b hb).2.2.2.2.1 y a (cp.clo I2 e).1), fun p hp' z => fpD b hb (z.symm.trans (hp p (by simpa [Y] using hp')))⟩
 have loop : ∀ s3 : Shared, s3 = { s2 with heap := g1, toks := s2.toks + ([] : List (Str × Value)).length } ->
   codeAny (model X.prog X.w) X.A (.compLoop (.ListComp elt [⟨target, iter, ct.toList, 0⟩] scope pos) 0 (.ref it) (.ref D) (compEnvC scope (cloOf X.env scope.names []) C X.env)) (compPost (model X.prog X.w) X.A X.xe none (EP X pins σ Q) (.ref D) C) s3 := by
  intro s3 e3
  refine compLoop_opt (fun n s' => ∃ i ys its σ' H', Inv Y [] σ' H' s' /\ s'.heap.get? D = some { cls := .type "list", data := .seq (its : List Value).toArray its.length } /\ Vals ys its /\ H' D = none /\ tn i s'.heap /\ (∀ b ∈ fp, H' b = none) /\ W i n ys σ' H') ?_ m0 ⟨0, [], [], _, H2, e3 ▸ IY, ?_, .nil, H2D, ?_, fun b hb => (f2 b hb).1, w0⟩
  ·rintro n s4 ⟨i, ys, its, σ4, H4, I4, hD4, hv4, hn4, st4, fr4, w4⟩
   obtain ⟨hsz, step⟩ := turn i n ys σ4 H4 w4
   have hl4 : ys.length = its.length := hv4.length
   have I4p : Inv Y [(D, { cls := .type "list", data := .seq its.toArray its.length })] σ4 H4 s4 := I4.pins_of fun p hp => by
    rw [List.mem_singleton.mp hp]
    exact ⟨hD4, hn4, hDC, Dnf, fun v z => by cases z⟩
   have one : ∀ p ∈ [((D : Addr), ({ cls := .type "list", data := .seq its.toArray its.length } : Obj))], p.1 = D := fun p hp => by rw [List.mem_singleton.mp hp]
   rcases step with ⟨stop, qn⟩ | ⟨go, step⟩
   ·refine wpAny_mono (T.done Y rfl rfl rfl hc i _ s4 σ4 H4 (fun _ _ => False) I4p (stat fr4 one) st4 stop) (fun r s5 hr => ?_) fun _ _ z => z.elim
    obtain ⟨rfl, I5⟩ := hr
    have hD5 : s5.heap.get? D = some { cls := .type "list", data := .seq its.toArray its.length } := (I5.pin (D, _) (by simp)).1
    obtain ⟨m5, hm5, _⟩ := I5.loc
    refine ⟨m5, hm5, fun h' sb => ?_⟩
    have U : Un (frs X.stack) fp H2 H4 s2.heap s5.heap := I5.base
    have nC : ∀ b o, s2.heap.get? b = some o -> b ≠ C := fun b o e => (below b (hDD ▸ Heap.lt_size e)).1
    have nD : ∀ b o, s2.heap.get? b = some o -> b ≠ D := fun b o e => (below b (hDD ▸ Heap.lt_size e)).2
    have ex : ∀ b o, b ≠ C -> s5.heap.get? b = some o -> h'.get? b = some o := fun b o n e => sb.extBut b o n e
    have U' : Un (frs X.stack) fp H2 (upd H4 D (.lst ys)) s2.heap h' := ⟨fun b o e n hb hx' => ex b o (nC b o e) (U.keep b o e n hb hx'), fun b o e n hb hx' => by
      obtain ⟨sl, q⟩ := U.slot b o e n hb hx'
      exact ⟨sl, ex b _ (nC b o e) q⟩, fun b o e n hx' => by rw [upd_ne (nD b o e)]; exact U.free b o e n hx', fun b o e hx' => by
      obtain ⟨o', q⟩ := U.there b o e hx'
      exact ⟨o', ex b _ (nC b o e) q⟩, fun b xs e => by rw [upd_ne (ne_of_none (U.tups b xs e) hn4)]; exact U.tups b xs e, fun b o xs e => by rw [upd_ne (ne_of_none (U.frzs b o xs e) hn4)]; exact U.frzs b o xs e, fun b ps e => by
      obtain ⟨more, q⟩ := U.tbls b ps e
      exact ⟨more, by rw [upd_ne (ne_of_none q hn4)]; exact q⟩⟩
    have ok1 : HOk X.prog X.w H4 h' := HOk.other I5.hok I5.free fun b u n e => ex b u n e
    have ok2 : HOk X.prog X.w (upd H4 D (.lst ys)) h' := ok1.track hn4 ⟨Nat.le_of_lt hsz, its, _, hv4, ex D _ hDC hD5⟩
    exact ⟨.ref D, upd H4 D (.lst ys), I2.call' (s' := { s5 with heap := h' }) I5.os U' ok2 I5.bare (fun b hb => ⟨(f2 b hb).2.2.2.1, (f2 b hb).2.1, (f2 b hb).2.2.2.2.1, (f2 b hb).2.2.2.2.2⟩), rfl, qn D hn4⟩
   ·refine wpAny_mono (T.item Y rfl rfl rfl hc i _ s4 σ4 H4 (fun _ _ => False) I4p (stat fr4 one) st4 go) (fun r s5 hr => ?_) fun _ _ z => z.elim
    obtain ⟨u, rfl, h5⟩ := hr
    refine wpAny_mono h5 (fun _ s6 h6 => ?_) fun _ _ z => z.elim
    obtain ⟨xv, H6, I6, r6, y6, st6, fr6⟩ := h6
    have I6p := I6.pinned (stat fr6 one) (T.obj _ _ st6)
    have after : ∀ {σ8 : St} {H8 : Hp} {s8 : Shared}, Inv Y _ σ8 H8 s8 -> _ := fun {σ8 H8 s8} (I8 : Inv Y ([(D, { cls := .type "list", data := .seq its.toArray its.length })] ++ pinsAt fp s6.heap) σ8 H8 s8) =>
     (show (s8.heap.get? D = some { cls := .type "list", data := .seq its.toArray its.length } /\ H8 D = none) /\ tn (i + 1) s8.heap /\ (∀ b ∈ fp, H8 b = none) /\ Inv Y [] σ8 H8 s8 from by
      have pD := I8.pin (D, { cls := .type "list", data := .seq its.toArray its.length }) (by simp)
      refine ⟨⟨pD.1, pD.2.1⟩, T.keep _ _ _ st6 fun b hb o e => (I8.pin (b, o) (List.mem_append_right _ (List.mem_append_right _ (mem_pinsAt hb e)))).1, fun b hb => ?_, I8.pins_of (pins' := []) fun p hp => by simp at hp⟩
      obtain ⟨o, e, d⟩ := T.obj _ _ st6 b hb
      exact (I8.pin (b, o) (List.mem_append_right _ (List.mem_append_right _ (mem_pinsAt hb e)))).2.1)
    refine wpAny_mono (hg C s2 H2 fp _ s6 σ4 H6 xv u _ I6p r6 (step xv H6 y6)) (fun _ s7 h7 => ?_) fun _ _ z => z.elim
    obtain ⟨σ7, H7, I7, q7⟩ := h7
    have yes : ∀ s7' H7', Inv Y _ σ7 H7' s7' -> (te σ7 H7' fun y H3 => ∃ m', m' < n /\ W (i + 1) m' (ys ++ [y]) σ7 H3) -> _ := fun s7' H7' (I7' : Inv Y ([(D, { cls := .type "list", data := .seq its.toArray its.length })] ++ pinsAt fp s6.heap) σ7 H7' s7') qe =>
     wpAny_mono (Q' := fun yv s8 => wpAny (model X.prog X.w) X.A (call (.builtin "list.append") [.ref D, yv]) (fun _ s6 => ∃ m, m < n /\ ∃ i ys its σ' H', Inv Y [] σ' H' s6 /\ s6.heap.get? D = some { cls := .type "list", data := .seq (its : List Value).toArray its.length } /\ Vals ys its /\ H' D = none /\ tn i s6.heap /\ (∀ b ∈ fp, H' b = none) /\ W i m ys σ' H') (notedBy (model X.prog X.w) X.A (compEnvC scope (cloOf X.env scope.names []) C X.env) fun e s' => compPost (model X.prog X.w) X.A X.xe none (EP X pins σ Q) (.ref D) C (.error e) s') s8) (he C s2 H2 fp _ s7' σ7 H7' _ I7' qe) (fun yv s8 h8 => by
      obtain ⟨y, H8, I8, r8, m', hm', w8⟩ := h8
      obtain ⟨⟨pD1, pD2⟩, st8, fr8, I8u⟩ := after I8
      refine append_at (hsz := by rw [List.size_toArray, <- hl4]; exact Nat.le_of_lt hsz) pD1 fun h9 sb9 hD9 => ?_
      refine ⟨m', hm', i + 1, ys ++ [y], its ++ [yv], σ7, H8, I8u.turned (it := D) (t' := s8.toks) (fun b o n e => sb9.extBut b o n e) pD2 hDC (.inr (by rw [hDD]; exact Nat.le_refl _)) (fun y a e z => by
        have := cellD y a (cp.clo I2 e).1
        rw [z] at this
        exact Nat.lt_irrefl _ this) (fun p hp => by simp [Y] at hp), ?_, Vals.append hv4 (.cons r8 .nil), pD2, T.keep _ _ _ st8 fun b hb o e => sb9.extBut b o (fpD b hb) e, fr8, w8⟩
      show h9.get? D = _
      rw [hD9]
      simp) (E' := notedBy (model X.prog X.w) X.A (compEnvC scope (cloOf X.env scope.names []) C X.env) fun e s' => compPost (model X.prog X.w) X.A X.xe none (EP X pins σ Q) (.ref D) C (.error e) s') (fun _ _ z => z.elim)
    cases ct with
    | none =>
     have ht' : tc = tTrue := ht
     subst ht'
     simp only [TestP, if_true]
     have q7' : if true = true then te σ7 H7 fun y H3 => ∃ m', m' < n /\ W (i + 1) m' (ys ++ [y]) σ7 H3 else ∃ m', m' < n /\ W (i + 1) m' ys σ7 H7 := q7
     rw [if_pos rfl] at q7'
     exact yes s7 H7 I7 q7'
    | some c =>
     refine wpAny_mono (ht C s2 H2 fp _ s7 σ7 H7 _ I7 q7) (fun b s8 h8 => ?_) fun _ _ z => z.elim
     obtain ⟨H8, I8, q8⟩ := h8
     cases b with
     | true =>
      rw [if_pos rfl] at q8 ⊢
      exact yes s8 H8 I8 q8
     | false =>
      rw [if_neg Bool.false_ne_true] at q8 ⊢
      obtain ⟨m', hm', w8⟩ := q8
      obtain ⟨⟨pD1, pD2⟩, st8, fr8, I8u⟩ := after I8
      exact ⟨m', hm', i + 1, ys, its, σ7, H8, I8u, pD1, hv4, pD2, st8, fr8, w8⟩
  ·rw [e3]; exact hacc
  ·rw [e3]; exact T.keep _ _ _ st2 fun b _ o e => old b o e
 exact codeAny_compStart_list (loop _ rfl) (T.self _ 0 _ _ _ (T.keep _ _ _ st2 fun b _ o e => old b o e) (loop _ rfl))
theorem qe_lcG {elt iter target : Expr} {ct : Option Expr} {pos : Pos} {scope : Scope} {wi : TI} {g : TG} {tc : TT} {te : TE} {N' : List Str} {nt : Nat} {js : List Nat} (hc : X.calm = true) (hi : QI X target iter wi) (hk : scope.kind = .function) (cp : CapOk X N' nt js scope)
  (hg : ∀ (C : Addr) (s : Shared) (H : Hp) (fp : List Addr), QG (X.compG scope N' C s H fp) target g)
  (ht : match ct with
   | none => tc = tTrue
   | some c => ∀ (C : Addr) (s : Shared) (H : Hp) (fp : List Addr), QT (X.compG scope N' C s H fp) c tc)
  (he : ∀ (C : Addr) (s : Shared) (H : Hp) (fp : List Addr), QE (X.compG scope N' C s H fp) elt te) (hs : ∀ x, foldedSetIterable iter X.env x = pure x := by intro _; rfl) : QE X (.ListComp elt [⟨target, iter, ct.toList, 0⟩] scope pos) (tLcG wi g tc te nt js) := by
 refine ⟨pe_lcG hc hi.p hk cp (fun C s H fp => (hg C s H fp).p) ?_ (fun C s H fp => (he C s H fp).p) hs⟩
 cases ct with
 | none => exact ht
 | some c => exact fun C s H fp => (ht C s H fp).p
theorem qg_nm {i : Nat} {x : Str} {pos : Pos} (hN : X.N.Nodup) (hi : X.N[i]? = some x) (hx : X.env.scope.names.lookup x = some .local) : QG X (.Name x pos) (gName i) := ⟨pg_name hN hi (.inl hx) (.inr hx)⟩
end
end L2
set_option Elab.async false
set_option linter.all false
set_option maxRecDepth 100000
set_option maxHeartbeats 4000000
namespace L2
open PySem PySem.Spec PyProof.Rows
theorem vals_iv : ∀ (ns : List Int) {us : List Value}, Vals (ns.map V.int) us -> ∃ l : List (Int × Tok), us = l.map (fun p => Value.int p.1 p.2) /\ l.map (·.1) = ns
 | [], _, r => by cases r; exact ⟨[], rfl, rfl⟩
 | n :: ns, _, r => by
  cases r with
  | cons r1 r2 =>
   obtain ⟨t, rfl⟩ := (show ∃ t, _ = Value.int n t from r1)
   obtain ⟨l, rfl, hl⟩ := vals_iv ns r2
   exact ⟨(n, t) :: l, rfl, by rw [List.map_cons, hl]⟩
section
variable {X : Cx}
def rSumL (K : PySem.W.Frag) : List V -> Hp -> VK -> Prop := fun xs H Q => ∃ (a : Addr) (ns : List Int), xs = [.ref a] /\ SqL K H a (ns.map V.int) /\ Q (.int ns.sum) H
theorem call_sumL (hc : X.calm = true) : CallR X (.builtin "sum") (rSumL X.K) := by
 intro pins s σ H xs us Q I r h
 obtain ⟨a, ns, rfl, hs, q⟩ := h
 obtain ⟨u, rfl, ru⟩ := vals1 r
 cases (show u = Value.ref a from ru)
 obtain ⟨its, hv, pl, _⟩ := I.list hs
 obtain ⟨l, rfl, hl⟩ := vals_iv ns hv
 refine sum_intListG (xs := l.toArray) (I.ok.hd hc) (by have := pl.isList; simpa [intItems] using this) fun h' tk t' hk => ?_
 refine ⟨.int _, H, I.kept (t' := tk) hk, ⟨t', rfl⟩, ?_⟩
 rw [preSum_eq, List.take_of_length_le (by simp)]
 simpa [hl] using q
end
section
variable {X : Cx}
theorem CallR.imp {f : Value} {r r' : List V -> Hp -> VK -> Prop} (h : CallR X f r) (i : ∀ xs H Q, r' xs H Q -> r xs H Q) : CallR X f r' := fun pins s σ H xs us Q I rv q => h pins s σ H xs us Q I rv (i xs H Q q)
end
theorem at_any {α : Type} {xs : List α} {i : Int} (h0 : 0 <= i) (h1 : i < xs.length) : ∃ v ∈ xs, atI xs i = some v := by
 have hk : i.toNat < xs.length := by omega
 have ek : i = ((i.toNat : Nat) : Int) := by omega
 refine ⟨xs[i.toNat], List.getElem_mem hk, ?_⟩
 have q : atI xs ((i.toNat : Nat) : Int) = some xs[i.toNat] := atI_nat (List.getElem?_eq_getElem hk)
 rw [<- ek] at q
 exact q
end L2
set_option Elab.async false
set_option linter.all false
set_option maxRecDepth 100000
set_option maxHeartbeats 4000000
namespace L2
open PySem PySem.Spec PyProof.Rows
section
variable {X : Cx} {pins : List (Addr × Obj)} {σ : St} {H : Hp} {s : Shared}
theorem ps_lcG {elt iter target : Expr} {ct : Option Expr} {pos spos py : Pos} {y : Str} {iy : Nat} (hN : X.N.Nodup) (hiy : X.N[iy]? = some y) (hly : X.env.scope.names.lookup y = some .local) {scope : Scope} {wi : TI} {g : TG} {tc : TT} {te : TE} {N' : List Str} {nt : Nat} {js : List Nat} (hc : X.calm = true) (hi : PI X target iter wi) (hk : scope.kind = .function) (cp : CapOk X N' nt js scope)
  (hg : ∀ (C : Addr) (s : Shared) (H : Hp) (fp : List Addr), PG (X.compG scope N' C s H fp) target g)
  (ht : match ct with
   | none => tc = tTrue
   | some c => ∀ (C : Addr) (s : Shared) (H : Hp) (fp : List Addr), PT (X.compG scope N' C s H fp) c tc)
  (he : ∀ (C : Addr) (s : Shared) (H : Hp) (fp : List Addr), PE (X.compG scope N' C s H fp) elt te) (hsw : swapsWith (.ListComp elt [⟨target, iter, ct.toList, 0⟩] scope pos) (some (.Name y py)) spos.line X.env = pure true := by rfl) (hs : ∀ x, foldedSetIterable iter X.env x = pure x := by intro _; rfl) : PS X (.Assign [.Name y py] (.ListComp elt [⟨target, iter, ct.toList, 0⟩] scope pos) spos) (tAsg (tLcG wi g tc te nt js) (gName iy)) := by
 intro pins s σ H Dn I h
 rw [exec_Assign_Name_used _ _ _ _ hsw]
 refine wpAny_bind (wpAny_standAt (wpAny_bind ?_))
 show wpAny _ X.A (do let _ <- comprehension (.ListComp elt [⟨target, iter, ct.toList, 0⟩] scope pos) scope X.env _ (newList []) false (eval iter X.env) (some (assign (.Name y py) X.env))) _ _ s
 refine wpAny_bind (wpAny_mono (wpAny_comprehension_free (use := some (assign (.Name y py) X.env)) (Q := fun _ s' => SP X pins Dn .next s') rfl hs (closureFor_of (cp.cells I)) hk cp.loc (thn (hi pins s σ H _ I h) fun v s1 h1 => thn h1 fun itv s2 h2 => ?_)) (fun _ s' hq => wpAny_pure (wpAny_pure hq)) fun _ _ e => e)
 obtain ⟨it, fp, tn, J, H2, e, I2, T, st2, f2, W, ⟨m0, w0⟩, turn⟩ := h2
 subst e
 have hfo : ∀ b ∈ fp, b < s2.heap.objs.size := fun b hb => by
  obtain ⟨o, e, _⟩ := T.obj _ _ st2 b hb
  exact Heap.lt_size e
 refine wpAny_newObj_type (wpAny_newFunctionEnv cp.nocell (by intro y hy; simp at hy) (fun g1 hns1 hsb1 => ?_) hk)
 dsimp only at hns1 hsb1 ⊢
 generalize hG2 : s2.heap.push { cls := .type "list", dict := none, data := .seq ([] : List Value).toArray } = G2 at hns1 hsb1 ⊢
 have hC : G2.objs.size = s2.heap.objs.size + 1 := by rw [<- hG2, Heap.size_push]
 have hDC : s2.heap.objs.size ≠ G2.objs.size := by rw [hC]; exact Nat.ne_of_lt (Nat.lt_succ_self _)
 have below : ∀ b, b < s2.heap.objs.size -> b ≠ G2.objs.size /\ b ≠ s2.heap.objs.size := fun b hb => ⟨by rw [hC]; exact Nat.ne_of_lt (Nat.lt_succ_of_lt hb), Nat.ne_of_lt hb⟩
 have old : ∀ b o, s2.heap.get? b = some o -> g1.get? b = some o := fun b o e => hsb1.extBut b o (below b (Heap.lt_size e)).1 (Heap.get?_push_of_some _ (hG2 ▸ Heap.get?_push_of_some _ e))
 have hacc : g1.get? s2.heap.objs.size = some { cls := .type "list", data := .seq ([] : List Value).toArray 0 } := hsb1.extBut _ _ hDC (Heap.get?_push_of_some _ (hG2 ▸ Heap.get?_push_size _ rfl))
 have hCge : s2.heap.objs.size <= G2.objs.size := by rw [hC]; exact Nat.le_succ _
 have cellD : ∀ y a, X.env.cells.lookup y = some a -> a < s2.heap.objs.size := fun y a e => by
  obtain ⟨v, o, ho, _⟩ := I2.cell y a e
  exact Heap.lt_size ho
 generalize hCC : G2.objs.size = C at *
 generalize hDD : s2.heap.objs.size = D at *
 let Y : Cx := X.compG scope N' C s2 H2 fp
 have IY : Inv Y [] (List.replicate nt none ++ js.map fun j => (σ[j]?).getD none) H2 { s2 with heap := g1, toks := s2.toks + ([] : List (Str × Value)).length } := I2.compG hk cp (by rw [hDD]; exact hCge) f2 (by rw [hDD]; exact hfo) old ⟨_, hns1⟩ hc
 have fpD : ∀ b ∈ fp, b ≠ D := fun b hb => (below b (hfo b hb)).2
 have fpC : ∀ b ∈ fp, b ≠ C := fun b hb => (below b (hfo b hb)).1
 have H2D : H2 D = none := I2.hok.fresh (by rw [hDD]; exact Nat.le_refl _)
 have Dnf : D ∉ frs X.stack := fun z => by
  obtain ⟨_, o, e, _⟩ := I2.stack.mem z
  exact absurd (Heap.lt_size e) (by rw [hDD]; exact Nat.lt_irrefl _)
 have stat : ∀ {H' : Hp} {pl : List (Addr × Obj)}, (∀ b ∈ fp, H' b = none) -> (∀ p ∈ pl, p.1 = D) -> ∀ b ∈ fp, FpOk Y pl H' b := fun hn hp b hb => ⟨hn b hb, fpC b hb, (fun z => IY.ok.exfs b hb z), .inl hb, (fun y a e => (f2 b hb).2.2.2.2.1 y a (cp.clo I2 e).1), fun p hp' z => fpD b hb (z.symm.trans (hp p (by simpa [Y] using hp')))⟩
 have loop : ∀ s3 : Shared, s3 = { s2 with heap := g1, toks := s2.toks + ([] : List (Str × Value)).length } ->
   codeAny (model X.prog X.w) X.A (.compLoop (.ListComp elt [⟨target, iter, ct.toList, 0⟩] scope pos) 0 (.ref it) (.ref D) (compEnvC scope (cloOf X.env scope.names []) C X.env)) (compPost (model X.prog X.w) X.A X.xe (some (assign (.Name y py) X.env)) (fun _ s' => SP X pins Dn .next s') (.ref D) C) s3 := by
  intro s3 e3
  refine compLoop_opt (fun n s' => ∃ i ys its σ' H', Inv Y [] σ' H' s' /\ s'.heap.get? D = some { cls := .type "list", data := .seq (its : List Value).toArray its.length } /\ Vals ys its /\ H' D = none /\ tn i s'.heap /\ (∀ b ∈ fp, H' b = none) /\ W i n ys σ' H') ?_ m0 ⟨0, [], [], _, H2, e3 ▸ IY, ?_, .nil, H2D, ?_, fun b hb => (f2 b hb).1, w0⟩
  ·rintro n s4 ⟨i, ys, its, σ4, H4, I4, hD4, hv4, hn4, st4, fr4, w4⟩
   obtain ⟨hsz, step⟩ := turn i n ys σ4 H4 w4
   have hl4 : ys.length = its.length := hv4.length
   have I4p : Inv Y [(D, { cls := .type "list", data := .seq its.toArray its.length })] σ4 H4 s4 := I4.pins_of fun p hp => by
    rw [List.mem_singleton.mp hp]
    exact ⟨hD4, hn4, hDC, Dnf, fun v z => by cases z⟩
   have one : ∀ p ∈ [((D : Addr), ({ cls := .type "list", data := .seq its.toArray its.length } : Obj))], p.1 = D := fun p hp => by rw [List.mem_singleton.mp hp]
   rcases step with ⟨stop, qn⟩ | ⟨go, step⟩
   ·refine wpAny_mono (T.done Y rfl rfl rfl hc i _ s4 σ4 H4 (fun _ _ => False) I4p (stat fr4 one) st4 stop) (fun r s5 hr => ?_) fun _ _ z => z.elim
    obtain ⟨rfl, I5⟩ := hr
    have hD5 : s5.heap.get? D = some { cls := .type "list", data := .seq its.toArray its.length } := (I5.pin (D, _) (by simp)).1
    obtain ⟨m5, hm5, _⟩ := I5.loc
    have U : Un (frs X.stack) fp H2 H4 s2.heap s5.heap := I5.base
    have nC : ∀ b o, s2.heap.get? b = some o -> b ≠ C := fun b o e => (below b (hDD ▸ Heap.lt_size e)).1
    have nD : ∀ b o, s2.heap.get? b = some o -> b ≠ D := fun b o e => (below b (hDD ▸ Heap.lt_size e)).2
    have U' : Un (frs X.stack) fp H2 (upd H4 D (.lst ys)) s2.heap s5.heap := ⟨U.keep, U.slot, fun b o e n hx' => by rw [upd_ne (nD b o e)]; exact U.free b o e n hx', U.there, fun b xs e => by rw [upd_ne (ne_of_none (U.tups b xs e) hn4)]; exact U.tups b xs e, fun b o xs e => by rw [upd_ne (ne_of_none (U.frzs b o xs e) hn4)]; exact U.frzs b o xs e, fun b ps e => by
      obtain ⟨more, q⟩ := U.tbls b ps e
      exact ⟨more, by rw [upd_ne (ne_of_none q hn4)]; exact q⟩⟩
    have ok2 : HOk X.prog X.w (upd H4 D (.lst ys)) s5.heap := HOk.track I5.hok hn4 ⟨Nat.le_of_lt hsz, its, _, hv4, hD5⟩
    have I6 : Inv X pins σ (upd H4 D (.lst ys)) s5 := I2.call' (s' := s5) I5.os U' ok2 I5.bare (fun b hb => ⟨(f2 b hb).2.2.2.1, (f2 b hb).2.1, (f2 b hb).2.2.2.2.1, (f2 b hb).2.2.2.2.2⟩)
    show wpAny _ X.A (assign (.Name y py) X.env (.ref D)) _ _ _
    refine wpAny_assign_Name (store_ok2 I6 hN hiy (.inl hly) (show RelV (.ref D) (.ref D) from rfl) (fun s7 I7 hs7 => ?_) (.inr hly))
    obtain ⟨c7, sb7, hc7⟩ := hs7
    have lt2 : X.env.locals < D := by rw [<- hDD]; exact I2.lt
    have c7C : c7 ≠ C := by
     rcases hc7 with z | z
     ·rw [z]; exact Nat.ne_of_lt (Nat.lt_of_lt_of_le lt2 hCge)
     ·exact Nat.ne_of_lt (Nat.lt_of_lt_of_le (cellD _ _ z) hCge)
    refine ⟨m5, hm5.sameBut sb7 (Ne.symm c7C), fun h' sb => ?_⟩
    refine ⟨_, _, I7.turned (it := C) (t' := s7.toks) (fun b o n e => sb.extBut b o n e) (by rw [upd_ne (Ne.symm hDC)]; exact I5.free) (Nat.ne_of_gt (Nat.lt_of_lt_of_le lt2 hCge)) (.inr (Nat.le_trans I2.sz (by rw [hDD]; exact hCge))) (fun x a e z => ?_) (fun p hp z => ?_), qn D hn4⟩
    ·have := cellD x a e
     rw [z] at this
     exact absurd (Nat.lt_of_lt_of_le this hCge) (Nat.lt_irrefl _)
    ·have := Heap.lt_size (I2.pin p hp).1
     rw [z, hDD] at this
     exact absurd (Nat.lt_of_lt_of_le this hCge) (Nat.lt_irrefl _)
   ·refine wpAny_mono (T.item Y rfl rfl rfl hc i _ s4 σ4 H4 (fun _ _ => False) I4p (stat fr4 one) st4 go) (fun r s5 hr => ?_) fun _ _ z => z.elim
    obtain ⟨u, rfl, h5⟩ := hr
    refine wpAny_mono h5 (fun _ s6 h6 => ?_) fun _ _ z => z.elim
    obtain ⟨xv, H6, I6, r6, y6, st6, fr6⟩ := h6
    have I6p := I6.pinned (stat fr6 one) (T.obj _ _ st6)
    have after : ∀ {σ8 : St} {H8 : Hp} {s8 : Shared}, Inv Y _ σ8 H8 s8 -> _ := fun {σ8 H8 s8} (I8 : Inv Y ([(D, { cls := .type "list", data := .seq its.toArray its.length })] ++ pinsAt fp s6.heap) σ8 H8 s8) =>
     (show (s8.heap.get? D = some { cls := .type "list", data := .seq its.toArray its.length } /\ H8 D = none) /\ tn (i + 1) s8.heap /\ (∀ b ∈ fp, H8 b = none) /\ Inv Y [] σ8 H8 s8 from by
      have pD := I8.pin (D, { cls := .type "list", data := .seq its.toArray its.length }) (by simp)
      refine ⟨⟨pD.1, pD.2.1⟩, T.keep _ _ _ st6 fun b hb o e => (I8.pin (b, o) (List.mem_append_right _ (List.mem_append_right _ (mem_pinsAt hb e)))).1, fun b hb => ?_, I8.pins_of (pins' := []) fun p hp => by simp at hp⟩
      obtain ⟨o, e, d⟩ := T.obj _ _ st6 b hb
      exact (I8.pin (b, o) (List.mem_append_right _ (List.mem_append_right _ (mem_pinsAt hb e)))).2.1)
    refine wpAny_mono (hg C s2 H2 fp _ s6 σ4 H6 xv u _ I6p r6 (step xv H6 y6)) (fun _ s7 h7 => ?_) fun _ _ z => z.elim
    obtain ⟨σ7, H7, I7, q7⟩ := h7
    have yes : ∀ s7' H7', Inv Y _ σ7 H7' s7' -> (te σ7 H7' fun y H3 => ∃ m', m' < n /\ W (i + 1) m' (ys ++ [y]) σ7 H3) -> _ := fun s7' H7' (I7' : Inv Y ([(D, { cls := .type "list", data := .seq its.toArray its.length })] ++ pinsAt fp s6.heap) σ7 H7' s7') qe =>
     wpAny_mono (Q' := fun yv s8 => wpAny (model X.prog X.w) X.A (call (.builtin "list.append") [.ref D, yv]) (fun _ s6 => ∃ m, m < n /\ ∃ i ys its σ' H', Inv Y [] σ' H' s6 /\ s6.heap.get? D = some { cls := .type "list", data := .seq (its : List Value).toArray its.length } /\ Vals ys its /\ H' D = none /\ tn i s6.heap /\ (∀ b ∈ fp, H' b = none) /\ W i m ys σ' H') (notedBy (model X.prog X.w) X.A (compEnvC scope (cloOf X.env scope.names []) C X.env) fun e s' => compPost (model X.prog X.w) X.A X.xe (some (assign (.Name y py) X.env)) (fun _ s' => SP X pins Dn .next s') (.ref D) C (.error e) s') s8) (he C s2 H2 fp _ s7' σ7 H7' _ I7' qe) (fun yv s8 h8 => by
      obtain ⟨y, H8, I8, r8, m', hm', w8⟩ := h8
      obtain ⟨⟨pD1, pD2⟩, st8, fr8, I8u⟩ := after I8
      refine append_at (hsz := by rw [List.size_toArray, <- hl4]; exact Nat.le_of_lt hsz) pD1 fun h9 sb9 hD9 => ?_
      refine ⟨m', hm', i + 1, ys ++ [y], its ++ [yv], σ7, H8, I8u.turned (it := D) (t' := s8.toks) (fun b o n e => sb9.extBut b o n e) pD2 hDC (.inr (by rw [hDD]; exact Nat.le_refl _)) (fun y a e z => by
        have := cellD y a (cp.clo I2 e).1
        rw [z] at this
        exact Nat.lt_irrefl _ this) (fun p hp => by simp [Y] at hp), ?_, Vals.append hv4 (.cons r8 .nil), pD2, T.keep _ _ _ st8 fun b hb o e => sb9.extBut b o (fpD b hb) e, fr8, w8⟩
      show h9.get? D = _
      rw [hD9]
      simp) (E' := notedBy (model X.prog X.w) X.A (compEnvC scope (cloOf X.env scope.names []) C X.env) fun e s' => compPost (model X.prog X.w) X.A X.xe (some (assign (.Name y py) X.env)) (fun _ s' => SP X pins Dn .next s') (.ref D) C (.error e) s') (fun _ _ z => z.elim)
    cases ct with
    | none =>
     have ht' : tc = tTrue := ht
     subst ht'
     simp only [TestP, if_true]
     have q7' : if true = true then te σ7 H7 fun y H3 => ∃ m', m' < n /\ W (i + 1) m' (ys ++ [y]) σ7 H3 else ∃ m', m' < n /\ W (i + 1) m' ys σ7 H7 := q7
     rw [if_pos rfl] at q7'
     exact yes s7 H7 I7 q7'
    | some c =>
     refine wpAny_mono (ht C s2 H2 fp _ s7 σ7 H7 _ I7 q7) (fun b s8 h8 => ?_) fun _ _ z => z.elim
     obtain ⟨H8, I8, q8⟩ := h8
     cases b with
     | true =>
      rw [if_pos rfl] at q8 ⊢
      exact yes s8 H8 I8 q8
     | false =>
      rw [if_neg Bool.false_ne_true] at q8 ⊢
      obtain ⟨m', hm', w8⟩ := q8
      obtain ⟨⟨pD1, pD2⟩, st8, fr8, I8u⟩ := after I8
      exact ⟨m', hm', i + 1, ys, its, σ7, H8, I8u, pD1, hv4, pD2, st8, fr8, w8⟩
  ·rw [e3]; exact hacc
  ·rw [e3]; exact T.keep _ _ _ st2 fun b _ o e => old b o e
 exact codeAny_compStart_list (loop _ rfl) (T.self _ 0 _ _ _ (T.keep _ _ _ st2 fun b _ o e => old b o e) (loop _ rfl))
theorem qs_lcG {elt iter target : Expr} {ct : Option Expr} {pos spos py : Pos} {y : Str} {iy : Nat} (hN : X.N.Nodup) (hiy : X.N[iy]? = some y) (hly : X.env.scope.names.lookup y = some .local) {scope : Scope} {wi : TI} {g : TG} {tc : TT} {te : TE} {N' : List Str} {nt : Nat} {js : List Nat} (hc : X.calm = true) (hi : QI X target iter wi) (hk : scope.kind = .function) (cp : CapOk X N' nt js scope)
  (hg : ∀ (C : Addr) (s : Shared) (H : Hp) (fp : List Addr), QG (X.compG scope N' C s H fp) target g)
  (ht : match ct with
   | none => tc = tTrue
   | some c => ∀ (C : Addr) (s : Shared) (H : Hp) (fp : List Addr), QT (X.compG scope N' C s H fp) c tc)
  (he : ∀ (C : Addr) (s : Shared) (H : Hp) (fp : List Addr), QE (X.compG scope N' C s H fp) elt te) (hsw : swapsWith (.ListComp elt [⟨target, iter, ct.toList, 0⟩] scope pos) (some (.Name y py)) spos.line X.env = pure true := by rfl) (hs : ∀ x, foldedSetIterable iter X.env x = pure x := by intro _; rfl) : QS X (.Assign [.Name y py] (.ListComp elt [⟨target, iter, ct.toList, 0⟩] scope pos) spos) (tAsg (tLcG wi g tc te nt js) (gName iy)) := by
 refine ⟨ps_lcG hN hiy hly hc hi.p hk cp (fun C s H fp => (hg C s H fp).p) ?_ (fun C s H fp => (he C s H fp).p) hsw hs⟩
 cases ct with
 | none => exact ht
 | some c => exact fun C s H fp => (ht C s H fp).p
end
end L2
set_option Elab.async false
set_option linter.all false
namespace Geo
abbrev P := Int × Int
def cr (a b c : P) : Int := (b.1 - a.1) * (c.2 - a.2) - (b.2 - a.2) * (c.1 - a.1)
def Lx (a b : P) : Prop := a.1 < b.1 \/ (a.1 = b.1 /\ a.2 < b.2)
instance (a b : P) : Decidable (Lx a b) := inferInstanceAs (Decidable (_ \/ _))
def Edges (S : P -> Prop) : List P -> Prop
 | b :: a :: r => (∀ p, S p -> 0 <= cr a b p) /\ Lx a b /\ Edges S (a :: r)
 | _ => True
def Conv : List P -> Prop
 | c :: b :: a :: r => 0 < cr a b c /\ Conv (b :: a :: r)
 | _ => True
structure Ok (S : P -> Prop) (s : List P) : Prop where
 sub : ∀ x ∈ s, S x
 desc : s.Pairwise fun x y => Lx y x
 top : ∃ b r, s = b :: r /\ ∀ p, S p -> ¬ Lx b p
 bot : ∃ z, s.getLast? = some z /\ ∀ p, S p -> ¬ Lx p z
 edges : Edges S s
 conv : Conv s
end Geo
namespace Geo
def dot (a b p : P) : Int := (p.1 - a.1) * (b.1 - a.1) + (p.2 - a.2) * (b.2 - a.2)
end Geo
namespace Geo
end Geo
set_option Elab.async false
set_option linter.all false
namespace Geo
end Geo
set_option Elab.async false
set_option linter.all false
namespace Geo
end Geo
set_option Elab.async false
set_option linter.all false
namespace Geo
def In (h : List P) (p : P) : Prop := match h with
 | [] => False
 | [m] => p = m
 | [a, b] => cr a b p = 0 /\ 0 <= dot a b p /\ 0 <= dot b a p
 | h => ∀ j a b, j < h.length -> h[(j + h.length - 1) % h.length]? = some a -> h[j]? = some b -> 0 <= cr a b p
def cy (h : List P) (i : Nat) : P := h.getD (i % h.length) (0, 0)
theorem cy_get {h : List P} {i : Nat} (hl : 0 < h.length) : h[i % h.length]? = some (cy h i) := by
 unfold cy
 have := Nat.mod_lt i hl
 rw [List.getD_eq_getElem?_getD, List.getElem?_eq_getElem this]
 rfl
end Geo
set_option Elab.async false
set_option linter.all false
namespace Geo
end Geo
set_option Elab.async false
set_option linter.all false
namespace Geo
end Geo
set_option Elab.async false
set_option linter.all false
set_option maxRecDepth 100000
set_option maxHeartbeats 4000000
namespace Lcg
def step (M x : Nat) : Nat := (x * 5 + 1) % M
end Lcg
namespace Tab
open PySem PySem.SetTable
def adv (mask : Nat) (p : Probe) : Probe :=
 if p.more > 0 then { p with j := p.j + 1, more := p.more - 1 } else
 { p with j := (leap mask p.i p.perturb).1, more := runEnd mask (leap mask p.i p.perturb).1 - (leap mask p.i p.perturb).1, i := (leap mask p.i p.perturb).1, perturb := (leap mask p.i p.perturb).2 }
def advs (mask : Nat) (p : Probe) : Nat -> Probe
 | 0 => p
 | n + 1 => adv mask (advs mask p n)
theorem advs_add (mask : Nat) (p : Probe) (m : Nat) : ∀ n, advs mask p (m + n) = advs mask (advs mask p m) n
 | 0 => rfl
 | n + 1 => congrArg (adv mask) (advs_add mask p m n)
theorem advs_run (mask : Nat) : ∀ (p : Probe) (n : Nat), n <= p.more -> advs mask p n = { p with j := p.j + n, more := p.more - n }
 | p, 0, _ => rfl
 | p, n + 1, h => by
  rw [advs, advs_run mask p n (by lia)]
  unfold adv
  rw [if_pos (by show p.more - n > 0; lia)]
  show ({ p with j := p.j + n + 1, more := p.more - n - 1 } : Probe) = _
  congr 1
theorem run_end (mask i : Nat) : runEnd mask i - i <= 9 := by unfold runEnd; split <;> lia
def lp (mask : Nat) (i q : Nat) : Nat -> Nat × Nat
 | 0 => (i, q)
 | c + 1 => leap mask (lp mask i q c).1 (lp mask i q c).2
theorem next_run (mask : Nat) (p : Probe) : advs mask p (p.more + 1) = { p with j := (leap mask p.i p.perturb).1, more := runEnd mask (leap mask p.i p.perturb).1 - (leap mask p.i p.perturb).1, i := (leap mask p.i p.perturb).1, perturb := (leap mask p.i p.perturb).2 } := by
 rw [advs, advs_run mask p p.more (Nat.le_refl _)]
 unfold adv
 rw [if_neg (by show ¬ p.more - p.more > 0; lia)]
theorem runs (mask : Nat) : ∀ (c : Nat) (p : Probe), p.more <= 9 -> ∃ s, s <= 10 * (c + 1) /\ (advs mask p s).j = (lp mask p.i p.perturb (c + 1)).1 /\ (advs mask p s).i = (lp mask p.i p.perturb (c + 1)).1 /\ (advs mask p s).perturb = (lp mask p.i p.perturb (c + 1)).2 /\ (advs mask p s).more <= 9
 | 0, p, h => ⟨p.more + 1, by lia, by rw [next_run]; rfl, by rw [next_run]; rfl, by rw [next_run]; rfl, by rw [next_run]; exact run_end _ _⟩
 | c + 1, p, h => by
  obtain ⟨s, h1, h2, h3, h4, h5⟩ := runs mask c p h
  refine ⟨s + ((advs mask p s).more + 1), by lia, ?_⟩
  rw [advs_add, next_run]
  refine ⟨?_, ?_, ?_, run_end _ _⟩
  ·show (leap mask (advs mask p s).i (advs mask p s).perturb).1 = _; rw [h3, h4]; rfl
  ·show (leap mask (advs mask p s).i (advs mask p s).perturb).1 = _; rw [h3, h4]; rfl
  ·show (leap mask (advs mask p s).i (advs mask p s).perturb).2 = _; rw [h3, h4]; rfl
end Tab
namespace Tab
open PySem PySem.SetTable
variable {α : Type}
abbrev Rw (α : Type) := Nat × Int × α
def ins (L : List (Rw α)) (p : Nat) (r : Rw α) : List (Rw α) := L.take p ++ r :: L.drop p
end Tab
namespace Tab
open PySem PySem.SetTable
variable {α : Type}
end Tab
namespace Tab
open PySem PySem.SetTable PyProof.Rows
end Tab
namespace Tab
open PySem PySem.SetTable PyProof.Rows
end Tab
namespace Tab
open PySem PySem.SetTable PyProof.Rows
end Tab
namespace Tab
open PySem PySem.SetTable PyProof.Rows
end Tab
set_option Elab.async false
set_option linter.all false
set_option maxRecDepth 100000
set_option maxHeartbeats 4000000
namespace Pu
open PySem PySem.Spec PyProof.Rows L2
inductive D where
 | non | bl (b : Bool) | int (i : Int) | str (x : Str) | tup (l : List D) | lst (l : List D) | dct (ks vs : List D) | fn (n : Nat) | exc (x : Str)
instance : Inhabited D := ⟨.non⟩
def fnName : Nat -> Str
 | 0 => "turn_by" | 1 => "turn_among" | 2 => "step_of" | 3 => "step_among" | _ => ""
def kD : Key -> D
 | .inl i => .int i
 | .inr x => .str x
section
variable (K : PySem.W.Frag) (mg : Str -> Option Value)
mutual
/-- the value v stands for d, in the heap G -/
def RD (G : Hp) : D -> V -> Prop
 | .non, v => v = .non
 | .bl b, v => v = .bl b
 | .int i, v => v = .int i
 | .str x, v => v = .str x
 | .tup ds, v => ∃ a xs, v = .ref a /\ SqT K G a xs /\ RDs G ds xs
 | .lst ds, v => ∃ a xs, v = .ref a /\ SqL K G a xs /\ RDs G ds xs
 | .dct ks vs, v => ∃ a xs, v = .ref a /\ RDs G vs xs /\ ((∃ kvs : List (Key × V), G a = some (.dK kvs) /\ ks = kvs.map (fun p => kD p.1) /\ xs = kvs.map (·.2)) \/ ∃ kvs : List (List Key × V), G a = some (.dT kvs) /\ ks = kvs.map (fun p => .tup (p.1.map kD)) /\ xs = kvs.map (·.2))
 | .fn n, v => ∃ f, v = .ref f /\ mg (fnName n) = some (.ref f)
 | .exc x, v => ∃ ea C, v = .ref ea /\ G ea = some (.ext (ExcAt ea C)) /\ mg x = some (.ref C)
def RDs (G : Hp) : List D -> List V -> Prop
 | [], xs => xs = []
 | d :: ds, xs => ∃ x r, xs = x :: r /\ RD G d x /\ RDs G ds r
end
end
section
variable {K : PySem.W.Frag} {mg : Str -> Option Value} {G G' H H' : Hp}
theorem Same.refl' : Same H H := fun _ _ h => h
theorem same_t {A B C : Hp} (h : Same A B) (h' : Same B C) : Same A C := fun a o e => h' a o (h a o e)
theorem same_L {a : Addr} {xs : List V} (e : Same G G') (h : SqL K G a xs) : SqL K G' a xs := by
 rcases h with (h | ⟨o, h⟩) | h
 ·exact .inl (.inl (e _ _ h))
 ·exact .inl (.inr ⟨o, e _ _ h⟩)
 ·exact .inr h
theorem same_T {a : Addr} {xs : List V} (e : Same G G') (h : SqT K G a xs) : SqT K G' a xs := by
 rcases h with (h | ⟨o, h⟩) | h
 ·exact .inl (.inl (e _ _ h))
 ·exact .inl (.inr ⟨o, e _ _ h⟩)
 ·exact .inr h
mutual
theorem RD.same (e : Same G G') : ∀ (d : D) {v : V}, RD K mg G d v -> RD K mg G' d v
 | .non, _, h => by simpa [RD] using h
 | .bl _, _, h => by simpa [RD] using h
 | .int _, _, h => by simpa [RD] using h
 | .str _, _, h => by simpa [RD] using h
 | .fn _, _, h => by rw [RD] at h ⊢; exact h
 | .exc _, _, h => by
  rw [RD] at h ⊢
  obtain ⟨ea, C, h1, h2, h3⟩ := h
  exact ⟨ea, C, h1, e _ _ h2, h3⟩
 | .tup ds, _, h => by
  rw [RD] at h ⊢
  obtain ⟨a, xs, h1, h2, h3⟩ := h
  exact ⟨a, xs, h1, same_T e h2, RDs.same e ds h3⟩
 | .lst ds, _, h => by
  rw [RD] at h ⊢
  obtain ⟨a, xs, h1, h2, h3⟩ := h
  exact ⟨a, xs, h1, same_L e h2, RDs.same e ds h3⟩
 | .dct ks vs, _, h => by
  rw [RD] at h ⊢
  obtain ⟨a, xs, h1, h3, h4⟩ := h
  refine ⟨a, xs, h1, RDs.same e vs h3, ?_⟩
  rcases h4 with ⟨kvs, q, r⟩ | ⟨kvs, q, r⟩
  ·exact .inl ⟨kvs, e _ _ q, r⟩
  ·exact .inr ⟨kvs, e _ _ q, r⟩
theorem RDs.same (e : Same G G') : ∀ (ds : List D) {xs : List V}, RDs K mg G ds xs -> RDs K mg G' ds xs
 | [], _, h => by simpa [RDs] using h
 | d :: ds, _, h => by
  rw [RDs] at h ⊢
  obtain ⟨x, r, h1, h2, h3⟩ := h
  exact ⟨x, r, h1, RD.same e d h2, RDs.same e ds h3⟩
end
theorem RDs.nil : RDs K mg G [] [] := by rw [RDs]
theorem RDs.cons {d : D} {v : V} {ds : List D} {vs : List V} (h : RD K mg G d v) (t : RDs K mg G ds vs) : RDs K mg G (d :: ds) (v :: vs) := by rw [RDs]; exact ⟨v, vs, rfl, h, t⟩
theorem RDs.len : ∀ {ds : List D} {vs : List V}, RDs K mg G ds vs -> vs.length = ds.length
 | [], _, h => by rw [RDs] at h; subst h; rfl
 | _ :: _, _, h => by
  rw [RDs] at h
  obtain ⟨x, r, rfl, _, h3⟩ := h
  simp [RDs.len h3]
theorem RDs.app : ∀ {ds es : List D} {vs us : List V}, RDs K mg G ds vs -> RDs K mg G es us -> RDs K mg G (ds ++ es) (vs ++ us)
 | [], _, _, _, h, k => by rw [RDs] at h; subst h; exact k
 | _ :: _, _, _, _, h, k => by
  rw [RDs] at h
  obtain ⟨x, r, rfl, h2, h3⟩ := h
  exact RDs.cons h2 (RDs.app h3 k)
theorem RDs.get : ∀ {ds : List D} {vs : List V} {i : Nat} {d : D}, RDs K mg G ds vs -> ds[i]? = some d -> ∃ v, vs[i]? = some v /\ RD K mg G d v
 | [], _, _, _, _, e => by simp at e
 | _ :: _, _, 0, _, h, e => by
  rw [RDs] at h
  obtain ⟨x, r, rfl, h2, h3⟩ := h
  simp at e; subst e
  exact ⟨x, rfl, h2⟩
 | _ :: _, _, i + 1, _, h, e => by
  rw [RDs] at h
  obtain ⟨x, r, rfl, h2, h3⟩ := h
  obtain ⟨v, e1, e2⟩ := RDs.get (i := i) h3 (by simpa using e)
  exact ⟨v, by simpa using e1, e2⟩
theorem RDs.take : ∀ {ds : List D} {vs : List V} (n : Nat), RDs K mg G ds vs -> RDs K mg G (ds.take n) (vs.take n)
 | _, _, 0, _ => by simp; exact RDs.nil
 | [], _, _ + 1, h => by rw [RDs] at h; subst h; exact RDs.nil
 | _ :: _, _, n + 1, h => by
  rw [RDs] at h
  obtain ⟨x, r, rfl, h2, h3⟩ := h
  exact RDs.cons h2 (RDs.take n h3)
theorem RDs.drop : ∀ {ds : List D} {vs : List V} (n : Nat), RDs K mg G ds vs -> RDs K mg G (ds.drop n) (vs.drop n)
 | _, _, 0, h => by simpa using h
 | [], _, _ + 1, h => by rw [RDs] at h; subst h; exact RDs.nil
 | _ :: _, _, n + 1, h => by
  rw [RDs] at h
  obtain ⟨x, r, rfl, h2, h3⟩ := h
  exact RDs.drop n h3
theorem RDs.at {ds : List D} {vs : List V} {i : Int} {d : D} (h : RDs K mg G ds vs) (e : atI ds i = some d) : ∃ v, atI vs i = some v /\ RD K mg G d v := by
 unfold atI at e ⊢
 rw [h.len]
 cases q : ixN ds.length i with
 | none => rw [q] at e; cases e
 | some j =>
  rw [q] at e
  exact h.get e
theorem RDs.cut {ds : List D} {vs : List V} (lo hi : Option Int) (h : RDs K mg G ds vs) : RDs K mg G ((ds.drop (HT.sIx ds.length 0 lo)).take (HT.sIx ds.length ds.length hi - HT.sIx ds.length 0 lo)) (cutV vs lo hi) := by
 unfold cutV
 rw [h.len]
 exact (h.drop _).take _
end
inductive B where
 | n | s (d : D) | o (d : D)
abbrev Env := List B
def B.get : B -> Option D
 | .n => none
 | .s d => some d
 | .o d => some d
def Env.get (ρ : Env) (i : Nat) : Option D := match ρ, i with
 | [], _ => none
 | b :: _, 0 => b.get
 | _ :: r, i + 1 => Env.get r i
theorem Env.get_eq : ∀ (ρ : Env) (i : Nat), Env.get ρ i = (ρ[i]?).bind B.get
 | [], i => by simp [Env.get]
 | b :: r, 0 => by simp [Env.get]
 | b :: r, i + 1 => by simp [Env.get, Env.get_eq r i]
abbrev DK := D -> Prop
abbrev XP := Str -> Prop
structure Fn where
 run : List D -> DK -> XP -> Prop
 mono : ∀ ds (Q Q' : DK) (X X' : XP), (∀ d, Q d -> Q' d) -> (∀ x, X x -> X' x) -> run ds Q X -> run ds Q' X'
structure Ex where
 run : Env -> DK -> XP -> Prop
 mono : ∀ ρ (Q Q' : DK) (X X' : XP), (∀ d, Q d -> Q' d) -> (∀ x, X x -> X' x) -> run ρ Q X -> run ρ Q' X'
structure Sm where
 run : Env -> (Env -> Prop) -> DK -> XP -> Prop
 mono : ∀ ρ (N N' : Env -> Prop) (Q Q' : DK) (X X' : XP), (∀ ρ, N ρ -> N' ρ) -> (∀ d, Q d -> Q' d) -> (∀ x, X x -> X' x) -> run ρ N Q X -> run ρ N' Q' X'
def onV (o : Option D) (Q : DK) : Prop := match o with
 | some d => Q d
 | none => False
def Ex.c (d : D) : Ex := ⟨fun _ Q _ => Q d, fun _ _ _ _ _ m _ q => m _ q⟩
def Ex.v (i : Nat) : Ex := ⟨fun ρ Q _ => onV (ρ.get i) Q, fun ρ Q Q' _ _ m _ q => by
 show onV (ρ.get i) Q'
 have q' : onV (ρ.get i) Q := q
 cases e : ρ.get i with
 | none => rw [e] at q'; exact q'
 | some d => rw [e] at q'; exact m _ q'⟩
def runs : List Ex -> Env -> (List D -> Prop) -> XP -> Prop
 | [], _, Q, _ => Q []
 | e :: es, ρ, Q, X => e.run ρ (fun d => runs es ρ (fun ds => Q (d :: ds)) X) X
theorem runs_mono : ∀ (es : List Ex) (ρ : Env) (Q Q' : List D -> Prop) (X X' : XP), (∀ d, Q d -> Q' d) -> (∀ x, X x -> X' x) -> runs es ρ Q X -> runs es ρ Q' X'
 | [], _, _, _, _, _, m, _, q => m _ q
 | e :: es, ρ, Q, Q', X, X', m, mx, q => e.mono ρ _ _ X X' (fun d q1 => runs_mono es ρ _ _ X X' (fun ds q2 => m _ q2) mx q1) mx q
def Ex.op (f : Fn) (es : List Ex) : Ex := ⟨fun ρ Q X => runs es ρ (fun ds => f.run ds Q X) X, fun ρ Q Q' X X' m mx q => runs_mono es ρ _ _ X X' (fun ds q1 => f.mono ds Q Q' X X' m mx q1) mx q⟩
def tst (d : D) (A B : Prop) : Prop := match d with
 | .bl b => (b = true -> A) /\ (b = false -> B)
 | _ => False
theorem tst_mono {d : D} {A A' B B' : Prop} (ha : A -> A') (hb : B -> B') (h : tst d A B) : tst d A' B' := by
 cases d with
 | bl b => exact ⟨fun e => ha (h.1 e), fun e => hb (h.2 e)⟩
 | _ => exact h.elim
theorem tst_bl {d : D} {A B : Prop} (h : tst d A B) : ∃ b, d = .bl b /\ (b = true -> A) /\ (b = false -> B) := by
 cases d with
 | bl b => exact ⟨b, rfl, h⟩
 | _ => exact h.elim
def Ex.and (a b : Ex) : Ex := ⟨fun ρ Q X => a.run ρ (fun d => tst d (b.run ρ Q X) (Q (.bl false))) X, fun ρ Q Q' X X' m mx q => a.mono ρ _ _ X X' (fun d q1 => tst_mono (b.mono ρ Q Q' X X' m mx) (m _) q1) mx q⟩
def Ex.or (a b : Ex) : Ex := ⟨fun ρ Q X => a.run ρ (fun d => tst d (Q (.bl true)) (b.run ρ Q X)) X, fun ρ Q Q' X X' m mx q => a.mono ρ _ _ X X' (fun d q1 => tst_mono (m _) (b.mono ρ Q Q' X X' m mx) q1) mx q⟩
def Ex.not (a : Ex) : Ex := ⟨fun ρ Q X => a.run ρ (fun d => match d with | .bl b => Q (.bl (!b)) | _ => False) X, fun ρ Q Q' X X' m mx q => a.mono ρ _ _ X X' (fun d q1 => by
 cases d with
 | bl b => exact m _ q1
 | _ => exact q1.elim) mx q⟩
def Ex.ifx (c a b : Ex) : Ex := ⟨fun ρ Q X => c.run ρ (fun d => tst d (a.run ρ Q X) (b.run ρ Q X)) X, fun ρ Q Q' X X' m mx q => c.mono ρ _ _ X X' (fun d q1 => tst_mono (a.mono ρ Q Q' X X' m mx) (b.mono ρ Q Q' X X' m mx) q1) mx q⟩
inductive Tg where
 | nm (i : Nat) | tp (is : List Nat)
def setAll : List Nat -> List D -> Env -> Env
 | i :: is, d :: ds, ρ => setAll is ds (ρ.set i (.s d))
 | _, _, ρ => ρ
def Tg.put (t : Tg) (d : D) (ρ : Env) (K : Env -> Prop) : Prop := match t, d with
 | .nm i, d => K (ρ.set i (.s d))
 | .tp is, .tup ds => is.length = ds.length /\ K (setAll is ds ρ)
 | _, _ => False
theorem Tg.put_mono {t : Tg} {d : D} {ρ : Env} {K K' : Env -> Prop} (m : ∀ ρ, K ρ -> K' ρ) (h : t.put d ρ K) : t.put d ρ K' := by
 cases t with
 | nm i => exact m _ h
 | tp is =>
  cases d with
  | tup ds => exact ⟨h.1, m _ h.2⟩
  | _ => exact h.elim
def items : D -> Option (List D)
 | .lst l => some l
 | .tup l => some l
 | .str x => some (x.cps.toList.map fun c => .str ⟨#[c]⟩)
 | _ => none
def onL (o : Option (List D)) (Q : List D -> Prop) : Prop := match o with
 | some l => Q l
 | none => False
theorem onL_mono {o : Option (List D)} {Q Q' : List D -> Prop} (m : ∀ l, Q l -> Q' l) (h : onL o Q) : onL o Q' := by
 cases o with
 | none => exact h
 | some l => exact m _ h
def compL (f : D -> (Option D -> Prop) -> Prop) : List D -> (List D -> Prop) -> Prop
 | [], N => N []
 | x :: xs, N => f x fun o => compL f xs fun r => N (o.toList ++ r)
theorem compL_mono {f f' : D -> (Option D -> Prop) -> Prop} (hf : ∀ x K K', (∀ o, K o -> K' o) -> f x K -> f' x K') : ∀ (xs : List D) (N N' : List D -> Prop), (∀ l, N l -> N' l) -> compL f xs N -> compL f' xs N'
 | [], _, _, m, q => m _ q
 | x :: xs, N, N', m, q => hf x _ _ (fun o q1 => compL_mono hf xs _ _ (fun r q2 => m _ q2) q1) q
def compEnv (nt : Nat) (js : List Nat) (ρ : Env) : Env := List.replicate nt .n ++ js.map fun j => (ρ[j]?).getD .n
def compF (t : Tg) (c : Option Ex) (elt : Ex) (ρ : Env) (x : D) (K : Option D -> Prop) : Prop :=
 t.put x ρ fun ρ' => match c with
  | none => elt.run ρ' (fun d => K (some d)) (fun _ => False)
  | some c => c.run ρ' (fun b => tst b (elt.run ρ' (fun d => K (some d)) (fun _ => False)) (K none)) (fun _ => False)
theorem compF_mono {t : Tg} {c : Option Ex} {elt : Ex} {ρ : Env} (x : D) (K K' : Option D -> Prop) (m : ∀ o, K o -> K' o) (h : compF t c elt ρ x K) : compF t c elt ρ x K' := by
 refine Tg.put_mono (fun ρ' q => ?_) h
 cases c with
 | none => exact elt.mono ρ' _ _ _ _ (fun d q1 => m _ q1) (fun _ z => z) q
 | some c => exact c.mono ρ' _ _ _ _ (fun b q1 => tst_mono (elt.mono ρ' _ _ _ _ (fun d q2 => m _ q2) (fun _ z => z)) (m _) q1) (fun _ z => z) q
def Ex.comp (nt : Nat) (js : List Nat) (t : Tg) (src : Ex) (c : Option Ex) (elt : Ex) : Ex :=
 ⟨fun ρ Q X => src.run ρ (fun d => onL (items d) fun l => l.length < sizeLine /\ compL (compF t c elt (compEnv nt js ρ)) l fun r => Q (.lst r)) X, fun ρ Q Q' X X' m mx q =>
  src.mono ρ _ _ X X' (fun d q1 => onL_mono (fun l q2 => ⟨q2.1, compL_mono compF_mono l _ _ (fun r q3 => m _ q3) q2.2⟩) q1) mx q⟩
def Sm.skip : Sm := ⟨fun ρ N _ _ => N ρ, fun _ _ _ _ _ _ _ m _ _ q => m _ q⟩
def Sm.seq (a b : Sm) : Sm := ⟨fun ρ N Q X => a.run ρ (fun ρ' => b.run ρ' N Q X) Q X, fun ρ N N' Q Q' X X' mn m mx q => a.mono ρ _ _ Q Q' X X' (fun ρ' q1 => b.mono ρ' N N' Q Q' X X' mn m mx q1) m mx q⟩
mutual
def noL : D -> Bool
 | .lst _ => false
 | .tup l => noLs l
 | .dct ks vs => noLs vs
 | _ => true
def noLs : List D -> Bool
 | [] => true
 | d :: ds => noL d && noLs ds
end
mutual
def noD : D -> Bool
 | .dct _ _ => false
 | .tup l => noDs l
 | .lst l => noDs l
 | _ => true
def noDs : List D -> Bool
 | [] => true
 | d :: ds => noD d && noDs ds
end
def safeB (d : D) : B -> Prop
 | .o (.lst _) => noL d = true
 | .o (.dct _ _) => noD d = true
 | _ => True
def Safe (d : D) : Env -> Prop
 | [] => True
 | b :: r => safeB d b /\ Safe d r
def SafeI (d : D) (ρ : Env) : Prop := match d with
 | .lst l => ∀ x ∈ l, Safe x ρ
 | .dct _ vs => ∀ x ∈ vs, Safe x ρ
 | _ => False
def Sm.set (i : Nat) (e : Ex) : Sm := ⟨fun ρ N _ X => e.run ρ (fun d => Safe d (ρ.set i .n) /\ N (ρ.set i (.s d))) X, fun ρ N N' Q Q' X X' mn m mx q => e.mono ρ _ _ X X' (fun d q1 => ⟨q1.1, mn _ q1.2⟩) mx q⟩
def Sm.own (i : Nat) (e : Ex) : Sm := ⟨fun ρ N _ X => e.run ρ (fun d => SafeI d (ρ.set i .n) /\ N (ρ.set i (.o d))) X, fun ρ N N' Q Q' X X' mn m mx q => e.mono ρ _ _ X X' (fun d q1 => ⟨q1.1, mn _ q1.2⟩) mx q⟩
def demB : B -> B
 | .o d => .s d
 | b => b
def dem : List Nat -> Env -> Env
 | [], ρ => ρ
 | j :: js, ρ => dem js (ρ.set j (demB ((ρ[j]?).getD .n)))
def visB : B -> B
 | .o _ => .n
 | b => b
def vis (ρ : Env) : Env := ρ.map visB
def Sm.setx (js : List Nat) (i : Nat) (e : Ex) : Sm := ⟨fun ρ N _ X => e.run (vis (dem js ρ)) (fun d => N ((dem js ρ).set i (.s d))) X, fun ρ N N' Q Q' X X' mn m mx q => e.mono _ _ _ X X' (fun d q1 => mn _ q1) mx q⟩
def Sm.ifs (c : Ex) (a b : Sm) : Sm := ⟨fun ρ N Q X => c.run ρ (fun d => tst d (a.run ρ N Q X) (b.run ρ N Q X)) X, fun ρ N N' Q Q' X X' mn m mx q => c.mono ρ _ _ X X' (fun d q1 => tst_mono (a.mono ρ N N' Q Q' X X' mn m mx) (b.mono ρ N N' Q Q' X X' mn m mx) q1) mx q⟩
def Sm.ret (e : Ex) : Sm := ⟨fun ρ _ Q X => e.run ρ Q X, fun ρ N N' Q Q' X X' mn m mx q => e.mono ρ _ _ X X' m mx q⟩
def Sm.retN : Sm := ⟨fun _ _ Q _ => Q .non, fun ρ N N' Q Q' X X' mn m mx q => m _ q⟩
def Sm.ex (e : Ex) : Sm := ⟨fun ρ N _ X => e.run ρ (fun _ => N ρ) X, fun ρ N N' Q Q' X X' mn m mx q => e.mono ρ _ _ X X' (fun _ q1 => mn _ q1) mx q⟩
def Sm.raise (x : Str) : Sm := ⟨fun _ _ _ X => X x, fun ρ N N' Q Q' X X' mn m mx q => mx _ q⟩
def wh (c : Ex) (b : Sm) (N : Env -> Prop) (Q : DK) (X : XP) : Nat -> Env -> Prop
 | 0, _ => False
 | n + 1, ρ => c.run ρ (fun d => tst d (b.run ρ (wh c b N Q X n) Q X) (N ρ)) X
theorem wh_mono {c : Ex} {b : Sm} {N N' : Env -> Prop} {Q Q' : DK} {X X' : XP} (mn : ∀ ρ, N ρ -> N' ρ) (m : ∀ d, Q d -> Q' d) (mx : ∀ x, X x -> X' x) : ∀ (n : Nat) (ρ : Env), wh c b N Q X n ρ -> wh c b N' Q' X' n ρ
 | 0, _, q => q
 | n + 1, ρ, q => c.mono ρ _ _ X X' (fun d q1 => tst_mono (b.mono ρ _ _ Q Q' X X' (fun ρ' q2 => wh_mono mn m mx n ρ' q2) m mx) (mn ρ) q1) mx q
def Sm.wh (c : Ex) (b : Sm) : Sm := ⟨fun ρ N Q X => ∃ n, Pu.wh c b N Q X n ρ, fun ρ N N' Q Q' X X' mn m mx ⟨n, q⟩ => ⟨n, wh_mono mn m mx n ρ q⟩⟩
def forL (t : Tg) (b : Sm) (N : Env -> Prop) (Q : DK) (X : XP) : List D -> Env -> Prop
 | [], ρ => N ρ
 | x :: xs, ρ => t.put x ρ fun ρ' => b.run ρ' (forL t b N Q X xs) Q X
theorem forL_mono {t : Tg} {b : Sm} {N N' : Env -> Prop} {Q Q' : DK} {X X' : XP} (mn : ∀ ρ, N ρ -> N' ρ) (m : ∀ d, Q d -> Q' d) (mx : ∀ x, X x -> X' x) : ∀ (l : List D) (ρ : Env), forL t b N Q X l ρ -> forL t b N' Q' X' l ρ
 | [], _, q => mn _ q
 | x :: xs, ρ, q => Tg.put_mono (fun ρ' q1 => b.mono ρ' _ _ Q Q' X X' (fun ρ2 q2 => forL_mono mn m mx xs ρ2 q2) m mx q1) q
def Sm.for_ (js : List Nat) (t : Tg) (src : Ex) (b : Sm) : Sm := ⟨fun ρ N Q X => src.run (vis (dem js ρ)) (fun d => onL (items d) fun l => forL t b N Q X l (dem js ρ)) X, fun ρ N N' Q Q' X X' mn m mx q => src.mono _ _ _ X X' (fun d q1 => onL_mono (fun l q2 => forL_mono mn m mx l _ q2) q1) mx q⟩
def onR (ds : List D) (K : List D -> Prop) : Prop := match ds with
 | [.int j] => (-(2 ^ 62) <= j /\ j < 2 ^ 62) /\ K ((List.range j.toNat).map fun (k : Nat) => .int (k : Int))
 | [.int i, .int j] => ((-(2 ^ 62) <= i /\ i < 2 ^ 62) /\ -(2 ^ 62) <= j /\ j < 2 ^ 62) /\ K ((List.range (j - i).toNat).map fun (k : Nat) => .int (i + (k : Int)))
 | _ => False
theorem onR_mono {ds : List D} {K K' : List D -> Prop} (m : ∀ l, K l -> K' l) (h : onR ds K) : onR ds K' := by
 unfold onR at h ⊢
 split at h
 ·exact ⟨h.1, m _ h.2⟩
 ·exact ⟨h.1, m _ h.2⟩
 ·exact h.elim
def Sm.forr (es : List Ex) (t : Tg) (b : Sm) : Sm := ⟨fun ρ N Q X => runs es ρ (fun ds => onR ds fun l => forL t b N Q X l ρ) X, fun ρ N N' Q Q' X X' mn m mx q => runs_mono es ρ _ _ X X' (fun d q1 => onR_mono (fun l q2 => forL_mono mn m mx l _ q2) q1) mx q⟩
def ownL (ρ : Env) (i : Nat) (K : List D -> Prop) : Prop := match ρ[i]? with
 | some (.o (.lst l)) => K l
 | _ => False
theorem ownL_mono {ρ : Env} {i : Nat} {K K' : List D -> Prop} (m : ∀ l, K l -> K' l) (h : ownL ρ i K) : ownL ρ i K' := by
 unfold ownL at h ⊢
 split <;> rename_i e
 ·rw [e] at h; exact m _ h
 ·split at h
  ·rename_i l e'; exact (e l e').elim
  ·exact h
def Sm.app (i : Nat) (e : Ex) : Sm := ⟨fun ρ N _ X => ownL ρ i fun l => e.run ρ (fun d => l.length < sizeLine /\ Safe d ρ /\ N (ρ.set i (.o (.lst (l ++ [d]))))) X, fun ρ N N' Q Q' X X' mn m mx q => ownL_mono (fun l q1 => e.mono ρ _ _ X X' (fun d q2 => ⟨q2.1, q2.2.1, mn _ q2.2.2⟩) mx q1) q⟩
def isI (d : D) (K : Int -> Prop) : Prop := match d with
 | .int i => K i
 | _ => False
theorem isI_mono {d : D} {K K' : Int -> Prop} (m : ∀ j, K j -> K' j) (h : isI d K) : isI d K' := by
 cases d with
 | int i => exact m _ h
 | _ => exact h.elim
def Fn.mk' (np nn : Nat) (b : Sm) : Fn := ⟨fun ds Q X => ds.length = np /\ b.run (ds.map B.s ++ List.replicate (nn - np) .n) (fun _ => Q .non) Q X, fun ds Q Q' X X' m mx q => ⟨q.1, b.mono _ _ _ Q Q' X X' (fun _ q1 => m _ q1) m mx q.2⟩⟩
def Fn.mkN (np nn : Nat) (b : Sm) : Fn := ⟨fun ds Q _ => ds.length = np /\ b.run (ds.map B.s ++ List.replicate (nn - np) .n) (fun _ => Q .non) Q (fun _ => False), fun ds Q Q' X X' m mx q => ⟨q.1, b.mono _ _ _ Q Q' _ _ (fun _ q1 => m _ q1) m (fun _ z => z) q.2⟩⟩
def Sm.calm (b : Sm) : Sm := ⟨fun ρ N Q _ => b.run ρ N Q (fun _ => False), fun ρ N N' Q Q' X X' mn m mx q => b.mono ρ N N' Q Q' _ _ mn m (fun _ z => z) q⟩
end Pu
set_option Elab.async false
set_option linter.all false
set_option maxRecDepth 100000
set_option maxHeartbeats 4000000
namespace Pu
open PySem PySem.Spec PyProof.Rows L2
def AbE (K : PySem.W.Frag) (mg : Str -> Option Value) (G : Hp) (ρ : Pu.Env) (σ : L2.St) : Prop := ∀ i d, ρ.get i = some d -> ∃ v, σ[i]? = some (some v) /\ RD K mg G d v
def Gr (G H G' : Hp) : Prop := Same G G' /\ ∀ a o, G' a = some o -> (∃ u, G a = some u) \/ H a = none
theorem Gr.refl {G H : Hp} : Gr G H G := ⟨Same.refl', fun a o e => .inl ⟨o, e⟩⟩
theorem Gr.trans {G H G1 H1 G2 : Hp} (h : Gr G H G1) (k : Same H H1) (h' : Gr G1 H1 G2) : Gr G H G2 := ⟨same_t h.1 h'.1, fun a o e => by
 rcases h'.2 a o e with ⟨u, q⟩ | q
 ·exact h.2 a u q
 ·refine .inr ?_
  cases z : H a with
  | none => rfl
  | some w => rw [k a w z] at q; cases q⟩
theorem Gr.new {G H : Hp} {p : Addr} {o : HO} (g : Same G H) (hp : H p = none) : Gr G H (upd G p o) := by
 have gp : G p = none := by
  cases e : G p with
  | none => rfl
  | some u => rw [g p u e] at hp; cases hp
 refine ⟨same_new gp o, fun a u e => ?_⟩
 by_cases ha : a = p
 ·subst ha; exact .inr hp
 ·rw [upd_ne ha] at e; exact .inl ⟨u, e⟩
def Kt (K : PySem.W.Frag) (mg : Str -> Option Value) (G H : Hp) (Q0 : DK) (Q : VK) : Prop := ∀ d v G' H', Q0 d -> Gr G H G' -> Same G' H' -> Same H H' -> RD K mg G' d v -> Q v H'
def Kts (K : PySem.W.Frag) (mg : Str -> Option Value) (G H : Hp) (Q0 : List D -> Prop) (Q : List V -> Hp -> Prop) : Prop := ∀ ds vs G' H', Q0 ds -> Gr G H G' -> Same G' H' -> Same H H' -> RDs K mg G' ds vs -> Q vs H'
def Kx (mg : Str -> Option Value) (H : Hp) (X0 : XP) (E : XK) : Prop := ∀ x C H', X0 x -> mg x = some (.ref C) -> Same H H' -> E (.ref C) none H'
def tx (K : PySem.W.Frag) (mg : Str -> Option Value) (E : XK) (e : Ex) : TE := fun σ H Q => ∃ G ρ Q0 X0, Same G H /\ AbE K mg G ρ σ /\ e.run ρ Q0 X0 /\ Kt K mg G H Q0 Q /\ Kx mg H X0 E
def txa (K : PySem.W.Frag) (mg : Str -> Option Value) (E : XK) (es : List Ex) : TA := fun σ H Q => ∃ G ρ Q0 X0, Same G H /\ AbE K mg G ρ σ /\ runs es ρ Q0 X0 /\ Kts K mg G H Q0 Q /\ Kx mg H X0 E
def tt (K : PySem.W.Frag) (mg : Str -> Option Value) (E : XK) (e : Ex) : TT := fun σ H Q => ∃ G ρ Q0 X0, Same G H /\ AbE K mg G ρ σ /\ e.run ρ Q0 X0 /\ (∀ d G' H', Q0 d -> Gr G H G' -> Same G' H' -> Same H H' -> ∃ b, d = .bl b /\ Q b H') /\ Kx mg H X0 E
section
variable {K : PySem.W.Frag} {mg : Str -> Option Value} {G G' H H' : Hp} {ρ : Pu.Env} {σ : L2.St} {Q0 : DK} {Q : VK} {X0 : XP} {E : XK}
theorem AbE.same (h : AbE K mg G ρ σ) (g : Same G G') : AbE K mg G' ρ σ := fun i d e => by
 obtain ⟨v, h1, h2⟩ := h i d e
 exact ⟨v, h1, h2.same g⟩
theorem Kt.same (h : Kt K mg G H Q0 Q) (g : Gr G H G') (k : Same H H') : Kt K mg G' H' Q0 Q := fun d v G1 H1 q a b c r => h d v G1 H1 q (g.trans k a) b (same_t k c) r
theorem Kx.same (h : Kx mg H X0 E) (k : Same H H') : Kx mg H' X0 E := fun x C H1 q m c => h x C H1 q m (same_t k c)
theorem Kx.no {E : XK} : Kx mg H (fun _ => False) E := fun _ _ _ z => z.elim
theorem Kt.now {d : D} {v : V} (h : Kt K mg G H Q0 Q) (g : Same G H) (q : Q0 d) (r : RD K mg G d v) : Q v H := h d v G H q Gr.refl g Same.refl' r
theorem Kt.new {d : D} {p : Addr} {o : HO} {v : V} (h : Kt K mg G H Q0 Q) (g : Same G H) (hp : H p = none) (q : Q0 d) (r : RD K mg (upd G p o) d v) : Q v (upd H p o) := by
 have gp : G p = none := by
  cases e : G p with
  | none => rfl
  | some u => rw [g p u e] at hp; cases hp
 refine h d v (upd G p o) (upd H p o) q (Gr.new g hp) (fun b u e => ?_) (same_new hp o) r
 by_cases hb : b = p
 ·subst hb; rw [upd_same] at e ⊢; exact e
 ·rw [upd_ne hb] at e ⊢; exact g b u e
theorem new_none (g : Same G H) {p : Addr} (hp : H p = none) : G p = none := by
 cases e : G p with
 | none => rfl
 | some u => rw [g p u e] at hp; cases hp
end
def Lk2 (K : PySem.W.Frag) (mg : Str -> Option Value) (F : Fn) (r : R2) : Prop := ∀ (G H : Hp) (d1 d2 : D) (v1 v2 : V) (Q0 : DK) (X0 : XP) (Q : VK), Same G H -> RD K mg G d1 v1 -> RD K mg G d2 v2 -> F.run [d1, d2] Q0 X0 -> Kt K mg G H Q0 Q -> r v1 v2 H Q
def Lk1 (K : PySem.W.Frag) (mg : Str -> Option Value) (F : Fn) (r : V -> Hp -> VK -> Prop) : Prop := ∀ (G H : Hp) (d : D) (v : V) (Q0 : DK) (X0 : XP) (Q : VK), Same G H -> RD K mg G d v -> F.run [d] Q0 X0 -> Kt K mg G H Q0 Q -> r v H Q
def LkN (K : PySem.W.Frag) (mg : Str -> Option Value) (F : Fn) (r : List V -> Hp -> VK -> Prop) : Prop := ∀ (G H : Hp) (ds : List D) (vs : List V) (Q0 : DK) (X0 : XP) (Q : VK), Same G H -> RDs K mg G ds vs -> F.run ds Q0 X0 -> Kt K mg G H Q0 Q -> r vs H Q
section
variable {K : PySem.W.Frag} {mg : Str -> Option Value} {E : XK} {σ : L2.St} {H : Hp} {Q : VK} {a b c : Ex} {F : Fn} {es : List Ex}
theorem tx2 {r : R2} (lk : Lk2 K mg F r) (h : tx K mg E (.op F [a, b]) σ H Q) : tOp r (tx K mg E a) (tx K mg E b) σ H Q := by
 obtain ⟨G, ρ, Q0, X0, hs, ab, hr, hk, hx⟩ := h
 refine ⟨G, ρ, fun d => b.run ρ (fun d' => F.run [d, d'] Q0 X0) X0, X0, hs, ab, hr, ?_, hx⟩
 intro d v G1 H1 hb g1 g2 g3 rd
 refine ⟨G1, ρ, fun d' => F.run [d, d'] Q0 X0, X0, g2, ab.same g1.1, hb, ?_, hx.same g3⟩
 intro d' v' G2 H2 hF k1 k2 k3 rd'
 exact lk G2 H2 d d' v v' Q0 X0 Q k2 (rd.same k1.1) rd' hF (hk.same (g1.trans g3 k1) (same_t g3 k3))
theorem tx1 {r : V -> Hp -> VK -> Prop} (lk : Lk1 K mg F r) (h : tx K mg E (.op F [a]) σ H Q) : tUn r (tx K mg E a) σ H Q := by
 obtain ⟨G, ρ, Q0, X0, hs, ab, hr, hk, hx⟩ := h
 refine ⟨G, ρ, fun d => F.run [d] Q0 X0, X0, hs, ab, hr, ?_, hx⟩
 intro d v G1 H1 hF g1 g2 g3 rd
 exact lk G1 H1 d v Q0 X0 Q g2 rd hF (hk.same g1 g3)
theorem txN {r : List V -> Hp -> VK -> Prop} (lk : LkN K mg F r) (h : tx K mg E (.op F es) σ H Q) : tCB r (txa K mg E es) σ H Q := by
 obtain ⟨G, ρ, Q0, X0, hs, ab, hr, hk, hx⟩ := h
 refine ⟨G, ρ, fun ds => F.run ds Q0 X0, X0, hs, ab, hr, ?_, hx⟩
 intro ds vs G1 H1 hF g1 g2 g3 rd
 exact lk G1 H1 ds vs Q0 X0 Q g2 rd hF (hk.same g1 g3)
end
theorem QE.imp {X : Cx} {e : Expr} {t t' : TE} (h : QE X e t) (i : ∀ σ H Q, t' σ H Q -> t σ H Q) : QE X e t' := ⟨h.p.imp i⟩
theorem QT.imp {X : Cx} {e : Expr} {t t' : TT} (h : QT X e t) (i : ∀ σ H Q, t' σ H Q -> t σ H Q) : QT X e t' := ⟨fun pins s σ H Q I q => h.p pins s σ H Q I (i σ H Q q)⟩
theorem QA.imp {X : Cx} {e : List Expr} {t t' : TA} (h : QA X e t) (i : ∀ σ H Q, t' σ H Q -> t σ H Q) : QA X e t' := ⟨fun pos pins s σ H Q I q => h.p pos pins s σ H Q I (i σ H Q q)⟩
theorem QW.imp {X : Cx} {e : Expr} {t t' : TT} (h : QW X e t) (i : ∀ σ H Q, t' σ H Q -> t σ H Q) : QW X e t' := ⟨fun w pins s σ H Q I q => h.p w pins s σ H Q I (i σ H Q q)⟩
theorem QS.imp {X : Cx} {e : Stmt} {t t' : TS} (h : QS X e t) (i : ∀ D σ H, t' D σ H -> t D σ H) : QS X e t' := ⟨fun pins s σ H D I q => h.p pins s σ H D I (i D σ H q)⟩
theorem QSs.imp {X : Cx} {e : List Stmt} {t t' : TS} (h : QSs X e t) (i : ∀ D σ H, t' D σ H -> t D σ H) : QSs X e t' := ⟨fun pins s σ H D I q => h.p pins s σ H D I (i D σ H q)⟩
theorem QI.imp {X : Cx} {tg e : Expr} {t t' : TI} (h : QI X tg e t) (i : ∀ σ H R, t' σ H R -> t σ H R) : QI X tg e t' := ⟨fun pins s σ H R I q => h.p pins s σ H R I (i σ H R q)⟩
abbrev QX (X : Cx) (E : XK) (e : Expr) (x : Ex) : Prop := QE X e (tx X.K X.mg E x)
abbrev QXT (X : Cx) (E : XK) (e : Expr) (x : Ex) : Prop := QT X e (tt X.K X.mg E x)
abbrev QXW (X : Cx) (E : XK) (e : Expr) (x : Ex) : Prop := QW X e (tt X.K X.mg E x)
abbrev QXA (X : Cx) (E : XK) (es : List Expr) (x : List Ex) : Prop := QA X es (txa X.K X.mg E x)
section
variable {X : Cx} {E : XK} {e a b c : Expr} {x y z : Ex} {pos : Pos} {es : List Expr} {xs : List Ex} {rest : List Expr}
theorem qx_c {d : D} {v : V} (h : QE X e (tC v)) (r : ∀ G, RD X.K X.mg G d v) : QX X E e (.c d) := QE.imp h fun σ H Q ⟨G, ρ, Q0, X0, hs, ab, hr, hk, hx⟩ => hk.now hs hr (r G)
theorem qx_v {i : Nat} (h : QE X e (tVar i)) : QX X E e (.v i) := QE.imp h fun σ H Q ⟨G, ρ, Q0, X0, hs, ab, hr, hk, hx⟩ => by
 have hr' : onV (ρ.get i) Q0 := hr
 cases q : ρ.get i with
 | none => rw [q] at hr'; exact hr'.elim
 | some d =>
  rw [q] at hr'
  obtain ⟨v, h1, h2⟩ := ab i d q
  exact ⟨v, h1, hk.now hs hr' h2⟩
theorem qx_int {i : Int} {j : Nat} : QX X E (.Constant (.int i) j pos) (.c (.int i)) := qx_c qe_int fun _ => by rw [RD]
theorem qx_bl {i : Bool} {j : Nat} : QX X E (.Constant (.bool i) j pos) (.c (.bl i)) := qx_c qe_bl fun _ => by rw [RD]
theorem qx_non {j : Nat} : QX X E (.Constant .none j pos) (.c .non) := qx_c qe_non fun _ => by rw [RD]
theorem qx_bin {op : Operator} {F : Fn} {r : R2} (ho : OpR X (binaryOp op) r) (lk : Lk2 X.K X.mg F r) (ha : QX X E a x) (hb : QX X E b y) : QX X E (.BinOp a op b pos) (.op F [x, y]) := QE.imp (qe_op ho ha hb) fun _ _ _ h => tx2 lk h
theorem qx_un {op : UnaryOp} {F : Fn} {r : V -> Hp -> VK -> Prop} (ho : UnR X (unaryOp op) r) (lk : Lk1 X.K X.mg F r) (ha : QX X E a x) : QX X E (.UnaryOp op a pos) (.op F [x]) := QE.imp (qe_un ho ha) fun _ _ _ h => tx1 lk h
theorem qx_cmp {op : CmpOp} {F : Fn} {r : R2} (ho : OpR X (compareOp op) r) (lk : Lk2 X.K X.mg F r) (ha : QX X E a x) (hb : QX X E b y) (hm : behindInMarks op b = false) : QX X E (.Compare a [op] [b] pos) (.op F [x, y]) := QE.imp (qe_cmpR ho ha hb hm) fun _ _ _ h => tx2 lk h
theorem tt_test {t : TE} {σ : L2.St} {H : Hp} {Q : Bool -> Hp -> Prop} (m : ∀ Q, tx X.K X.mg E x σ H Q -> t σ H Q) (h : tt X.K X.mg E x σ H Q) : tTest t σ H Q := by
 obtain ⟨G, ρ, Q0, X0, hs, ab, hr, hk, hx⟩ := h
 refine m _ ⟨G, ρ, Q0, X0, hs, ab, hr, fun d v G' H' q g1 g2 g3 rd => ?_, hx⟩
 obtain ⟨b, rfl, q'⟩ := hk d G' H' q g1 g2 g3
 rw [RD] at rd
 exact ⟨b, rd, q'⟩
theorem qt_cmp {op : CmpOp} {F : Fn} {r : R2} (ho : OpR X (compareOp op) r) (lk : Lk2 X.K X.mg F r) (ha : QX X E a x) (hb : QX X E b y) (hm : behindInMarks op b = false) : QXT X E (.Compare a [op] [b] pos) (.op F [x, y]) := QT.imp (qt_cmpR ho ha hb hm) fun σ H Q h => tt_test (fun _ h => tx2 lk h) h
theorem qt_valx (h : QX X E e x) (he : ∀ whole, isTrue e X.env whole = (do let v <- whole; standAt e.pos; holding [v] (truthy v)) := by intro _; rfl) : QXT X E e x := QT.imp (qt_val h he) fun σ H Q h => by
 obtain ⟨G, ρ, Q0, X0, hs, ab, hr, hk, hx⟩ := h
 refine ⟨G, ρ, Q0, X0, hs, ab, hr, fun d v G' H' q g1 g2 g3 rd => ?_, hx⟩
 obtain ⟨b, rfl, q'⟩ := hk d G' H' q g1 g2 g3
 rw [RD] at rd
 exact ⟨b, rd, q'⟩
theorem qtx_not (ha : QXT X E a x) : QXT X E (.UnaryOp .Not a pos) (.not x) := QT.imp (qt_not ha) fun σ H Q ⟨G, ρ, Q0, X0, hs, ab, hr, hk, hx⟩ => by
 refine ⟨G, ρ, _, X0, hs, ab, hr, fun d G' H' q g1 g2 g3 => ?_, hx⟩
 cases d with
 | bl b =>
  obtain ⟨b', e, q'⟩ := hk (.bl !b) G' H' q g1 g2 g3
  cases e
  exact ⟨b, rfl, q'⟩
 | _ => exact q.elim
theorem qx_one {op} (h : QX X E a x) : QX X E (.BoolOp op [a] pos) x := qe_one h
theorem qx_and (ha : QX X E a x) (hb : QX X E (.BoolOp .And (b :: rest) pos) y) : QX X E (.BoolOp .And (a :: b :: rest) pos) (.and x y) := QE.imp (qe_and ha hb) fun σ H Q ⟨G, ρ, Q0, X0, hs, ab, hr, hk, hx⟩ => by
 refine ⟨G, ρ, _, X0, hs, ab, hr, fun d v G' H' q g1 g2 g3 rd => ?_, hx⟩
 obtain ⟨k, rfl, q1, q2⟩ := tst_bl q
 rw [RD] at rd
 refine ⟨k, rd, ?_⟩
 cases k with
 | true => exact iteT ⟨G', ρ, Q0, X0, g2, ab.same g1.1, q1 rfl, hk.same g1 g3, hx.same g3⟩
 | false => exact iteF (hk (.bl false) (.bl false) G' H' (q2 rfl) g1 g2 g3 (by rw [RD]))
theorem qwx_or1 (ha : QXT X E a x) : QXW X E (.BoolOp .Or [a] pos) x := qw_or1 ha
theorem qwx_or (ha : QXT X E a x) (hb : QXW X E (.BoolOp .Or (b :: rest) pos) y) : QXW X E (.BoolOp .Or (a :: b :: rest) pos) (.or x y) := QW.imp (qw_or ha hb) fun σ H Q ⟨G, ρ, Q0, X0, hs, ab, hr, hk, hx⟩ => by
 refine ⟨G, ρ, _, X0, hs, ab, hr, fun d G' H' q g1 g2 g3 => ?_, hx⟩
 obtain ⟨k, rfl, q1, q2⟩ := tst_bl q
 refine ⟨k, rfl, ?_⟩
 cases k with
 | false => exact iteF ⟨G', ρ, Q0, X0, g2, ab.same g1.1, q2 rfl, fun d G2 H2 q k1 k2 k3 => hk d G2 H2 q (g1.trans g3 k1) k2 (same_t g3 k3), hx.same g3⟩
 | true =>
  obtain ⟨b', e, q'⟩ := hk (.bl true) G' H' (q1 rfl) g1 g2 g3
  cases e
  exact iteT q'
theorem qxa_nil : QXA X E [] [] := QA.imp qa_nil fun σ H Q ⟨G, ρ, Q0, X0, hs, ab, hr, hk, hx⟩ => hk [] [] G H hr Gr.refl hs Same.refl' RDs.nil
theorem qxa_cons (ha : QX X E e x) (hr : QXA X E es xs) (hs : starEach (e :: es) X.env = (false, eval e X.env) :: starEach es X.env := by rfl) : QXA X E (e :: es) (x :: xs) := QA.imp (qa_cons ha hr hs) fun σ H Q ⟨G, ρ, Q0, X0, hs, ab, hr, hk, hx⟩ => by
 refine ⟨G, ρ, _, X0, hs, ab, hr, fun d v G' H' q g1 g2 g3 rd => ?_, hx⟩
 refine ⟨G', ρ, _, X0, g2, ab.same g1.1, q, fun ds vs G2 H2 q' k1 k2 k3 rds => ?_, hx.same g3⟩
 exact hk (d :: ds) (v :: vs) G2 H2 q' (g1.trans g3 k1) k2 (same_t g3 k3) (RDs.cons (rd.same k1.1) rds)
def spP (K : PySem.W.Frag) (mg : Str -> Option Value) (F : Fn) : Sp := fun vs H Q E => ∃ G ds Q0 X0, Same G H /\ RDs K mg G ds vs /\ F.run ds Q0 X0 /\ Kt K mg G H Q0 Q /\ Kx mg H X0 E
theorem qx_fn {CX : CXT} {k : Nat} {ps : List Str} {F : Fn} {f : Str} {pp : Pos} (C : Cal X.prog X.w X.K X.mg X.base CX k f ps (spP X.K X.mg F)) (hr : Room k X.A) (hx : Passes CX X E) (ha : QXA X E (e :: es) xs) (hg : Gl X f := by rfl)
  (hdb : (f == ("__debug__" : Str)) = false := by decide) (he : starEach (e :: es) X.env = (false, eval e X.env) :: starEach es X.env := by rfl) (hpl : (backTo pos (starEach es X.env)).any (·.1) = false := by rfl) : QX X E (.Call (.Name f pp) (e :: es) [] pos) (.op F xs) :=
 QE.imp (qe_fn C hr hx ha hg hdb he hpl) fun σ H Q ⟨G, ρ, Q0, X0, hs, ab, hr, hk, hx⟩ => by
  refine ⟨G, ρ, _, X0, hs, ab, hr, fun ds vs G' H' q g1 g2 g3 rds => ?_, hx⟩
  show spP X.K X.mg F (vs ++ []) H' Q E
  rw [List.append_nil]
  exact ⟨G', ds, Q0, X0, g2, rds, q, hk.same g1 g3, hx.same g3⟩
theorem qx_cb {f : Str} {pp : Pos} {id : String} {F : Fn} {r : List V -> Hp -> VK -> Prop} (hc : CallR X (.builtin id) r) (lk : LkN X.K X.mg F r) (hg : Gl X f) (hm : X.mg f = none) (hv : bootBuiltins f = some (.builtin id)) (ha : QXA X E (e :: es) xs) (hn : f ≠ "__name__" := by decide) (hdb : (f == ("__debug__" : Str)) = false := by decide)
  (he : starEach (e :: es) X.env = (false, eval e X.env) :: starEach es X.env := by rfl) (hpl : (backTo pos (starEach es X.env)).any (·.1) = false := by rfl) : QX X E (.Call (.Name f pp) (e :: es) [] pos) (.op F xs) :=
 QE.imp (qe_callB hc hg hm hv ha hn hdb he hpl) fun _ _ _ h => txN lk h
theorem qx_cty {f : Str} {pp : Pos} {id : String} {F : Fn} {r : List V -> Hp -> VK -> Prop} (hc : CallR X (.type id) r) (lk : LkN X.K X.mg F r) (hg : Gl X f) (hm : X.mg f = none) (hv : bootBuiltins f = some (.type id)) (ha : QXA X E (e :: es) xs) (hn : f ≠ "__name__" := by decide) (hdb : (f == ("__debug__" : Str)) = false := by decide)
  (he : starEach (e :: es) X.env = (false, eval e X.env) :: starEach es X.env := by rfl) (hpl : (backTo pos (starEach es X.env)).any (·.1) = false := by rfl) : QX X E (.Call (.Name f pp) (e :: es) [] pos) (.op F xs) :=
 QE.imp (qe_callTy hc hg hm hv ha hn hdb he hpl) fun _ _ _ h => txN lk h
end
end Pu
set_option Elab.async false
set_option linter.all false
set_option maxRecDepth 100000
set_option maxHeartbeats 4000000
namespace Pu
open PySem PySem.Spec PyProof.Rows L2
def OwnAt (K : PySem.W.Frag) (mg : Str -> Option Value) (G H : Hp) (a : Addr) : D -> Prop
 | .lst ds => ∃ xs, H a = some (.lst xs) /\ RDs K mg G ds xs
 | .dct ks vs => ∃ xs, RDs K mg G vs xs /\ ((∃ kvs : List (Key × V), H a = some (.dK kvs) /\ ks = kvs.map (fun p => kD p.1) /\ xs = kvs.map (·.2)) \/ ∃ kvs : List (List Key × V), H a = some (.dT kvs) /\ ks = kvs.map (fun p => .tup (p.1.map kD)) /\ xs = kvs.map (·.2))
 | _ => False
structure AbS (K : PySem.W.Frag) (mg : Str -> Option Value) (H0 G0 G : Hp) (ρ : Pu.Env) (σ : L2.St) (H : Hp) : Prop where
 len : σ.length = ρ.length
 s0 : Same H0 H
 g0 : Same G0 G
 g : Same G H
 nw : ∀ a o, G a = some o -> (∃ u, G0 a = some u) \/ H0 a = none
 sh : ∀ (i : Nat) (d : D), ρ[i]? = some (B.s d) -> ∃ v, σ[i]? = some (some v) /\ RD K mg G d v
 ow : ∀ (i : Nat) (d : D), ρ[i]? = some (B.o d) -> ∃ a, σ[i]? = some (some (V.ref a)) /\ G a = none /\ H0 a = none /\ OwnAt K mg G H a d
 ne : ∀ (i j : Nat) (d d' : D) (a : Addr), i ≠ j -> ρ[i]? = some (B.o d) -> ρ[j]? = some (B.o d') -> σ[i]? = some (some (V.ref a)) -> σ[j]? = some (some (V.ref a)) -> False
open Classical in
noncomputable def plus (G H : Hp) (O : Addr -> Prop) : Hp := fun a => if O a then H a else G a
open Classical in
noncomputable def minus (G : Hp) (O : Addr -> Prop) : Hp := fun a => if O a then none else G a
section
variable {K : PySem.W.Frag} {mg : Str -> Option Value} {H0 G0 G G' H H' H1 : Hp} {ρ : Pu.Env} {σ : L2.St} {O : Addr -> Prop}
theorem plus_le (g : Same G H) : Same (plus G H O) H := fun a o e => by
 unfold plus at e
 split at e
 ·exact e
 ·exact g a o e
theorem le_plus (h : ∀ a, O a -> G a = none) : Same G (plus G H O) := fun a o e => by
 unfold plus
 split
 ·rename_i z; rw [h a z] at e; cases e
 ·exact e
theorem plus_in {a : Addr} (h : O a) : plus G H O a = H a := by unfold plus; rw [if_pos h]
theorem minus_le : Same (minus G O) G := fun a o e => by
 unfold minus at e
 split at e
 ·cases e
 ·exact e
theorem minus_in {a : Addr} (h : O a) : minus G O a = none := by unfold minus; rw [if_pos h]
theorem minus_out {a : Addr} (h : ¬ O a) : minus G O a = G a := by unfold minus; rw [if_neg h]
theorem le_minus (g : Same G G') (h : ∀ a, O a -> G a = none) : Same G (minus G' O) := fun a o e => by
 by_cases z : O a
 ·rw [h a z] at e; cases e
 ·rw [minus_out z]; exact g a o e
theorem OwnAt.same {a : Addr} {d : D} (h : OwnAt K mg G H a d) (g : Same G G') (k : ∀ o, H a = some o -> H1 a = some o) : OwnAt K mg G' H1 a d := by
 cases d with
 | lst ds =>
  obtain ⟨xs, h1, h2⟩ := h
  exact ⟨xs, k _ h1, h2.same g⟩
 | dct ks vs =>
  obtain ⟨xs, h1, h2⟩ := h
  refine ⟨xs, h1.same g, ?_⟩
  rcases h2 with ⟨kvs, q, r⟩ | ⟨kvs, q, r⟩
  ·exact .inl ⟨kvs, k _ q, r⟩
  ·exact .inr ⟨kvs, k _ q, r⟩
 | _ => exact h.elim
theorem OwnAt.some {a : Addr} {d : D} (h : OwnAt K mg G H a d) : ∃ o, H a = some o := by
 cases d with
 | lst ds => obtain ⟨xs, h1, h2⟩ := h; exact ⟨_, h1⟩
 | dct ks vs =>
  obtain ⟨xs, h1, h2⟩ := h
  rcases h2 with ⟨kvs, q, r⟩ | ⟨kvs, q, r⟩ <;> exact ⟨_, q⟩
 | _ => exact h.elim
theorem OwnAt.rd {a : Addr} {d : D} (h : OwnAt K mg G H a d) (g : Same G G') (e : G' a = H a) : RD K mg G' d (.ref a) := by
 cases d with
 | lst ds =>
  obtain ⟨xs, h1, h2⟩ := h
  rw [RD]
  exact ⟨a, xs, rfl, SqL.of (e.trans h1), h2.same g⟩
 | dct ks vs =>
  obtain ⟨xs, h1, h2⟩ := h
  rw [RD]
  refine ⟨a, xs, rfl, h1.same g, ?_⟩
  rcases h2 with ⟨kvs, q, r⟩ | ⟨kvs, q, r⟩
  ·exact .inl ⟨kvs, e.trans q, r⟩
  ·exact .inr ⟨kvs, e.trans q, r⟩
 | _ => exact h.elim
def OK1 (G : Hp) (O : Addr -> Prop) (bL bD : Prop) : Prop := ∀ a, O a -> G a = none \/ ((∃ xs, G a = some (.lst xs)) /\ bL) \/ (((∃ kvs, G a = some (.dK kvs)) \/ ∃ kvs, G a = some (.dT kvs)) /\ bD)
theorem minus_rd {a : Addr} {o u : HO} {bL bD : Prop} (hO : OK1 G O bL bD) (h : G a = some o) (h1 : ∀ xs, o = .lst xs -> ¬ bL) (h2 : ∀ k, o = .dK k -> ¬ bD) (h3 : ∀ k, o = .dT k -> ¬ bD) : minus G O a = some o := by
 by_cases z : O a
 ·rcases hO a z with q | ⟨⟨xs, q⟩, b⟩ | ⟨⟨k, q⟩ | ⟨k, q⟩, b⟩
  ·rw [q] at h; cases h
  ·rw [q] at h; cases h; exact (h1 _ rfl b).elim
  ·rw [q] at h; cases h; exact (h2 _ rfl b).elim
  ·rw [q] at h; cases h; exact (h3 _ rfl b).elim
 ·rw [minus_out z]; exact h
mutual
theorem RD.minus {bL bD : Prop} (hO : OK1 G O bL bD) : ∀ (d : D) {v : V}, (bL -> noL d = true) -> (bD -> noD d = true) -> RD K mg G d v -> RD K mg (Pu.minus G O) d v
 | .non, _, _, _, h => by simpa [RD] using h
 | .bl _, _, _, _, h => by simpa [RD] using h
 | .int _, _, _, _, h => by simpa [RD] using h
 | .str _, _, _, _, h => by simpa [RD] using h
 | .fn _, _, _, _, h => by rw [RD] at h ⊢; exact h
 | .exc _, _, _, _, h => by
  rw [RD] at h ⊢
  obtain ⟨ea, C, h1, h2, h3⟩ := h
  exact ⟨ea, C, h1, minus_rd (u := .lst []) hO h2 (fun _ z => by cases z) (fun _ z => by cases z) (fun _ z => by cases z), h3⟩
 | .tup ds, _, nl, nd, h => by
  rw [RD] at h ⊢
  obtain ⟨a, xs, h1, h2, h3⟩ := h
  refine ⟨a, xs, h1, ?_, RDs.minus hO ds (fun b => by have := nl b; rwa [noL] at this) (fun b => by have := nd b; rwa [noD] at this) h3⟩
  rcases h2 with (h2 | ⟨o, h2⟩) | h2
  ·exact .inl (.inl (minus_rd (u := .lst []) hO h2 (fun _ z => by cases z) (fun _ z => by cases z) (fun _ z => by cases z)))
  ·exact .inl (.inr ⟨o, minus_rd (u := .lst []) hO h2 (fun _ z => by cases z) (fun _ z => by cases z) (fun _ z => by cases z)⟩)
  ·exact .inr h2
 | .lst ds, _, nl, nd, h => by
  rw [RD] at h ⊢
  obtain ⟨a, xs, h1, h2, h3⟩ := h
  have nb : ¬ bL := fun b => by have := nl b; rw [noL] at this; cases this
  refine ⟨a, xs, h1, ?_, RDs.minus hO ds (fun b => (nb b).elim) (fun b => by have := nd b; rwa [noD] at this) h3⟩
  rcases h2 with (h2 | ⟨o, h2⟩) | h2
  ·exact .inl (.inl (minus_rd (u := .lst []) hO h2 (fun _ _ => nb) (fun _ z => by cases z) (fun _ z => by cases z)))
  ·exact .inl (.inr ⟨o, minus_rd (u := .lst []) hO h2 (fun _ z => by cases z) (fun _ z => by cases z) (fun _ z => by cases z)⟩)
  ·exact .inr h2
 | .dct ks vs, _, nl, nd, h => by
  rw [RD] at h ⊢
  obtain ⟨a, xs, h1, h3, h4⟩ := h
  have nb : ¬ bD := fun b => by have := nd b; rw [noD] at this; cases this
  refine ⟨a, xs, h1, RDs.minus hO vs (fun b => by have := nl b; rwa [noL] at this) (fun b => (nb b).elim) h3, ?_⟩
  rcases h4 with ⟨kvs, q, r⟩ | ⟨kvs, q, r⟩
  ·exact .inl ⟨kvs, minus_rd (u := .lst []) hO q (fun _ z => by cases z) (fun _ _ => nb) (fun _ _ => nb), r⟩
  ·exact .inr ⟨kvs, minus_rd (u := .lst []) hO q (fun _ z => by cases z) (fun _ _ => nb) (fun _ _ => nb), r⟩
theorem RDs.minus {bL bD : Prop} (hO : OK1 G O bL bD) : ∀ (ds : List D) {xs : List V}, (bL -> noLs ds = true) -> (bD -> noDs ds = true) -> RDs K mg G ds xs -> RDs K mg (Pu.minus G O) ds xs
 | [], _, _, _, h => by simpa [RDs] using h
 | d :: ds, _, nl, nd, h => by
  rw [RDs] at h ⊢
  obtain ⟨x, r, h1, h2, h3⟩ := h
  exact ⟨x, r, h1, RD.minus hO d (fun b => by have := nl b; rw [noLs, Bool.and_eq_true] at this; exact this.1) (fun b => by have := nd b; rw [noDs, Bool.and_eq_true] at this; exact this.1) h2,
   RDs.minus hO ds (fun b => by have := nl b; rw [noLs, Bool.and_eq_true] at this; exact this.2) (fun b => by have := nd b; rw [noDs, Bool.and_eq_true] at this; exact this.2) h3⟩
end
def Owned (ρ : Pu.Env) (σ : L2.St) (a : Addr) : Prop := ∃ (j : Nat) (d : D), ρ[j]? = some (B.o d) /\ σ[j]? = some (some (V.ref a))
theorem AbS.free (h : AbS K mg H0 G0 G ρ σ H) : ∀ a, Owned ρ σ a -> G a = none := fun a ⟨j, d, e, q⟩ => by
 obtain ⟨b, q', hb, _⟩ := h.ow j d e
 rw [q] at q'; cases q'
 exact hb
theorem AbS.owned0 (h : AbS K mg H0 G0 G ρ σ H) : ∀ a, Owned ρ σ a -> H0 a = none := fun a ⟨j, d, e, q⟩ => by
 obtain ⟨b, q', hb, h0, _⟩ := h.ow j d e
 rw [q] at q'; cases q'
 exact h0
theorem AbS.nw1 {G1 : Hp} (h : AbS K mg H0 G0 G ρ σ H) (g : Gr (plus G H (Owned ρ σ)) H G1) : ∀ a o, G1 a = some o -> (∃ u, G0 a = some u) \/ H0 a = none := fun a o e => by
 rcases g.2 a o e with ⟨u, q⟩ | q
 ·by_cases z : Owned ρ σ a
  ·exact .inr (h.owned0 a z)
  ·unfold plus at q; rw [if_neg z] at q; exact h.nw a u q
 ·refine .inr ?_
  cases z : H0 a with
  | none => rfl
  | some w => rw [h.s0 a w z] at q; cases q
theorem AbS.nw2 {G1 : Hp} (h : AbS K mg H0 G0 G ρ σ H) (g : Gr G H G1) : ∀ a o, G1 a = some o -> (∃ u, G0 a = some u) \/ H0 a = none := fun a o e => by
 rcases g.2 a o e with ⟨u, q⟩ | q
 ·exact h.nw a u q
 ·refine .inr ?_
  cases z : H0 a with
  | none => rfl
  | some w => rw [h.s0 a w z] at q; cases q
theorem AbS.abe (h : AbS K mg H0 G0 G ρ σ H) : AbE K mg (plus G H (Owned ρ σ)) ρ σ := fun i d e => by
 rw [Env.get_eq] at e
 cases q : ρ[i]? with
 | none => rw [q] at e; cases e
 | some b =>
  rw [q] at e
  cases b with
  | n => cases e
  | s d' =>
   cases e
   obtain ⟨v, h1, h2⟩ := h.sh i d q
   exact ⟨v, h1, h2.same (le_plus h.free)⟩
  | o d' =>
   cases e
   obtain ⟨a, h1, h2, h3, h4⟩ := h.ow i d q
   exact ⟨.ref a, h1, h4.rd (le_plus h.free) (plus_in ⟨i, d, q, h1⟩)⟩
theorem AbS.vis (h : AbS K mg H0 G0 G ρ σ H) : AbE K mg G (vis ρ) σ := fun i d e => by
 rw [Env.get_eq] at e
 unfold Pu.vis at e
 rw [List.getElem?_map] at e
 cases q : ρ[i]? with
 | none => rw [q] at e; cases e
 | some b =>
  rw [q] at e
  cases b with
  | n => cases e
  | s d' =>
   cases e
   exact h.sh i d q
  | o d' => cases e
theorem Safe.get {d : D} : ∀ {ρ : Pu.Env} {j : Nat} {b : B}, Safe d ρ -> ρ[j]? = some b -> safeB d b
 | [], _, _, _, e => by simp at e
 | c :: r, 0, b, h, e => by simp at e; subst e; exact h.1
 | c :: r, j + 1, b, h, e => Safe.get (j := j) h.2 (by simpa using e)
theorem own_ok {G1 : Hp} {d : D} {I : Nat -> Prop} (h : AbS K mg H0 G0 G ρ σ H) (g2 : Same G1 H1) (g3 : Same H H1) :
  OK1 G1 (fun a => ∃ (j : Nat) (d : D), I j /\ ρ[j]? = some (B.o d) /\ σ[j]? = some (some (V.ref a))) (∃ (j : Nat) (l : List D), I j /\ ρ[j]? = some (B.o (.lst l))) (∃ (j : Nat) (k v : List D), I j /\ ρ[j]? = some (B.o (.dct k v))) := fun a ⟨j, d', hI, e, q⟩ => by
 obtain ⟨b, q', hb, h0, hw⟩ := h.ow j d' e
 rw [q] at q'; cases q'
 cases e1 : G1 a with
 | none => exact .inl rfl
 | some o =>
  have e2 := g2 a o e1
  cases d' with
  | lst ds =>
   obtain ⟨xs, h1, h2⟩ := hw
   rw [g3 a _ h1] at e2
   cases e2
   exact .inr (.inl ⟨⟨xs, rfl⟩, j, ds, hI, e⟩)
  | dct ks vs =>
   obtain ⟨xs, h1, h2⟩ := hw
   rcases h2 with ⟨kvs, z, r⟩ | ⟨kvs, z, r⟩
   ·rw [g3 a _ z] at e2
    cases e2
    exact .inr (.inr ⟨.inl ⟨kvs, rfl⟩, j, ks, vs, hI, e⟩)
   ·rw [g3 a _ z] at e2
    cases e2
    exact .inr (.inr ⟨.inr ⟨kvs, rfl⟩, j, ks, vs, hI, e⟩)
  | _ => exact hw.elim
theorem safe_minus {G1 : Hp} {d : D} {v : V} {i : Nat} (h : AbS K mg H0 G0 G ρ σ H) (g2 : Same G1 H1) (g3 : Same H H1) (sf : Safe d (ρ.set i .n)) (rd : RD K mg G1 d v) :
  RD K mg (Pu.minus G1 (fun a => ∃ (j : Nat) (d : D), j ≠ i /\ ρ[j]? = some (B.o d) /\ σ[j]? = some (some (V.ref a)))) d v := by
 refine RD.minus (own_ok (d := d) (I := fun j => j ≠ i) h g2 g3) d (fun ⟨j, l, hj, e⟩ => ?_) (fun ⟨j, k, v, hj, e⟩ => ?_) rd
 ·exact Safe.get sf (j := j) (b := .o (.lst l)) (by rw [List.getElem?_set_ne (Ne.symm hj)]; exact e)
 ·exact Safe.get sf (j := j) (b := .o (.dct k v)) (by rw [List.getElem?_set_ne (Ne.symm hj)]; exact e)
theorem safe_minus' {G1 : Hp} {d : D} {v : V} (h : AbS K mg H0 G0 G ρ σ H) (g2 : Same G1 H1) (g3 : Same H H1) (sf : Safe d ρ) (rd : RD K mg G1 d v) :
  RD K mg (Pu.minus G1 (fun a => ∃ (j : Nat) (d : D), True /\ ρ[j]? = some (B.o d) /\ σ[j]? = some (some (V.ref a)))) d v := by
 refine RD.minus (own_ok (d := d) (I := fun _ => True) h g2 g3) d (fun ⟨j, l, hj, e⟩ => ?_) (fun ⟨j, k, v, hj, e⟩ => ?_) rd
 ·exact Safe.get sf (j := j) (b := .o (.lst l)) e
 ·exact Safe.get sf (j := j) (b := .o (.dct k v)) e
theorem AbS.put {G1 : Hp} {i : Nat} {d : D} {v : V} (h : AbS K mg H0 G0 G ρ σ H) (nw : ∀ a o, G1 a = some o -> (∃ u, G0 a = some u) \/ H0 a = none) (g1 : Same G G1) (g2 : Same G1 H1) (g3 : Same H H1) (hO : ∀ (j : Nat) (d' : D) (a : Addr), j ≠ i -> ρ[j]? = some (B.o d') -> σ[j]? = some (some (V.ref a)) -> G1 a = none) (rd : RD K mg G1 d v) :
  AbS K mg H0 G0 G1 (ρ.set i (.s d)) (σ.set i (some v)) H1 where
 len := by simp [h.len]
 s0 := same_t h.s0 g3
 g0 := same_t h.g0 g1
 g := g2
 nw := nw
 sh := fun j e q => by
  by_cases hj : j = i
  ·subst hj
   have hl : j < ρ.length := by
    have := (List.getElem?_eq_some_iff.mp q).1
    simpa using this
   rw [List.getElem?_set_self hl] at q
   cases q
   exact ⟨v, by rw [List.getElem?_set_self (by rw [h.len]; exact hl)], rd⟩
  ·rw [List.getElem?_set_ne (Ne.symm hj)] at q
   obtain ⟨w, h1, h2⟩ := h.sh j e q
   exact ⟨w, by rw [List.getElem?_set_ne (Ne.symm hj)]; exact h1, h2.same g1⟩
 ow := fun j e q => by
  by_cases hj : j = i
  ·subst hj
   have hl : j < ρ.length := by
    have := (List.getElem?_eq_some_iff.mp q).1
    simpa using this
   rw [List.getElem?_set_self hl] at q
   cases q
  ·rw [List.getElem?_set_ne (Ne.symm hj)] at q
   obtain ⟨a, h1, h2, h3, h4⟩ := h.ow j e q
   exact ⟨a, by rw [List.getElem?_set_ne (Ne.symm hj)]; exact h1, hO j e a hj q h1, h3, h4.same g1 (g3 a)⟩
 ne := fun j k e e' a hjk q q' s s' => by
  have hl : ∀ {j : Nat} {e : D}, (ρ.set i (.s d))[j]? = some (B.o e) -> j ≠ i := fun {j e} q hj => by
   subst hj
   have hl : j < ρ.length := by
    have := (List.getElem?_eq_some_iff.mp q).1
    simpa using this
   rw [List.getElem?_set_self hl] at q
   cases q
  have hj := hl q
  have hk := hl q'
  rw [List.getElem?_set_ne (Ne.symm hj)] at q s
  rw [List.getElem?_set_ne (Ne.symm hk)] at q' s'
  exact h.ne j k e e' a hjk q q' s s'
theorem AbS.own {G1 : Hp} {i : Nat} {d : D} {a : Addr} (h : AbS K mg H0 G0 G ρ σ H) (nw : ∀ a o, G1 a = some o -> (∃ u, G0 a = some u) \/ H0 a = none) (g1 : Same G G1) (g2 : Same G1 H1) (g3 : Same H H1) (hO : ∀ (j : Nat) (d' : D) (a : Addr), j ≠ i -> ρ[j]? = some (B.o d') -> σ[j]? = some (some (V.ref a)) -> G1 a = none) (hn : H a = none) (ga : G1 a = none) (hw : OwnAt K mg G1 H1 a d) :
  AbS K mg H0 G0 G1 (ρ.set i (.o d)) (σ.set i (some (.ref a))) H1 where
 len := by simp [h.len]
 s0 := same_t h.s0 g3
 g0 := same_t h.g0 g1
 g := g2
 nw := nw
 sh := fun j e q => by
  by_cases hj : j = i
  ·subst hj
   have hl : j < ρ.length := by
    have := (List.getElem?_eq_some_iff.mp q).1
    simpa using this
   rw [List.getElem?_set_self hl] at q
   cases q
  ·rw [List.getElem?_set_ne (Ne.symm hj)] at q
   obtain ⟨w, h1, h2⟩ := h.sh j e q
   exact ⟨w, by rw [List.getElem?_set_ne (Ne.symm hj)]; exact h1, h2.same g1⟩
 ow := fun j e q => by
  by_cases hj : j = i
  ·subst hj
   have hl : j < ρ.length := by
    have := (List.getElem?_eq_some_iff.mp q).1
    simpa using this
   rw [List.getElem?_set_self hl] at q
   cases q
   refine ⟨a, by rw [List.getElem?_set_self (by rw [h.len]; exact hl)], ga, ?_, hw⟩
   exact new_none h.s0 hn
  ·rw [List.getElem?_set_ne (Ne.symm hj)] at q
   obtain ⟨b, h1, h2, h3, h4⟩ := h.ow j e q
   exact ⟨b, by rw [List.getElem?_set_ne (Ne.symm hj)]; exact h1, hO j e b hj q h1, h3, h4.same g1 (g3 b)⟩
 ne := fun j k e e' b hjk q q' s s' => by
  have old : ∀ {j : Nat} {e : D}, j ≠ i -> (ρ.set i (.o d))[j]? = some (B.o e) -> (σ.set i (some (.ref a)))[j]? = some (some (V.ref b)) -> ρ[j]? = some (B.o e) /\ σ[j]? = some (some (V.ref b)) := fun {j e} hj q s => by
   rw [List.getElem?_set_ne (Ne.symm hj)] at q s
   exact ⟨q, s⟩
  have new : ∀ {j : Nat} {e : D}, j = i -> (ρ.set i (.o d))[j]? = some (B.o e) -> (σ.set i (some (.ref a)))[j]? = some (some (V.ref b)) -> b = a := fun {j e} hj q s => by
   subst hj
   have hl : j < σ.length := by
    have := (List.getElem?_eq_some_iff.mp s).1
    simpa using this
   rw [List.getElem?_set_self hl] at s
   cases s; rfl
  have none : ∀ {j : Nat} {e : D}, ρ[j]? = some (B.o e) -> σ[j]? = some (some (V.ref b)) -> b ≠ a := fun {j e} q s z => by
   obtain ⟨b', h1, h2, h3, h4⟩ := h.ow j e q
   rw [s] at h1; cases h1
   obtain ⟨o, ho⟩ := h4.some
   rw [z, hn] at ho; cases ho
  by_cases hj : j = i
  ·have hb := new hj q s
   have hk : k ≠ i := fun z => hjk (hj.trans z.symm)
   obtain ⟨q1, s1⟩ := old hk q' s'
   exact none q1 s1 hb
  ·obtain ⟨q1, s1⟩ := old hj q s
   by_cases hk : k = i
   ·exact none q1 s1 (new hk q' s')
   ·obtain ⟨q2, s2⟩ := old hk q' s'
    exact h.ne j k e e' b hjk q1 q2 s1 s2
theorem AbS.wr {G1 : Hp} {i : Nat} {d d' : D} {a : Addr} {o : HO} (h : AbS K mg H0 G0 G ρ σ H) (nw : ∀ a o, G1 a = some o -> (∃ u, G0 a = some u) \/ H0 a = none) (g1 : Same G G1) (g2 : Same G1 H1) (g3 : Same H H1) (hO : ∀ (j : Nat) (d' : D) (a : Addr), ρ[j]? = some (B.o d') -> σ[j]? = some (some (V.ref a)) -> G1 a = none) (hi : ρ[i]? = some (B.o d)) (hs : σ[i]? = some (some (V.ref a)))
  (hw : OwnAt K mg G1 (upd H1 a o) a d') : AbS K mg H0 G0 G1 (ρ.set i (.o d')) σ (upd H1 a o) := by
 obtain ⟨a', e1, ga, h0a, hw0⟩ := h.ow i d hi
 rw [hs] at e1; cases e1
 have hl : i < ρ.length := (List.getElem?_eq_some_iff.mp hi).1
 refine ⟨by simp [h.len], fun b u e => ?_, same_t h.g0 g1, fun b u e => ?_, nw, fun j e q => ?_, fun j e q => ?_, fun j k e e' b hjk q q' s s' => ?_⟩
 ·have hb : b ≠ a := fun z => by rw [z, h0a] at e; cases e
  rw [upd_ne hb]; exact g3 b u (h.s0 b u e)
 ·have hb : b ≠ a := fun z => by rw [z, hO i d a hi hs] at e; cases e
  rw [upd_ne hb]; exact g2 b u e
 ·by_cases hj : j = i
  ·subst hj
   rw [List.getElem?_set_self hl] at q; cases q
  ·rw [List.getElem?_set_ne (Ne.symm hj)] at q
   obtain ⟨w, h1, h2⟩ := h.sh j e q
   exact ⟨w, h1, h2.same g1⟩
 ·by_cases hj : j = i
  ·subst hj
   rw [List.getElem?_set_self hl] at q; cases q
   exact ⟨a, hs, hO j d a hi hs, h0a, hw⟩
  ·rw [List.getElem?_set_ne (Ne.symm hj)] at q
   obtain ⟨b, h1, h2, h3, h4⟩ := h.ow j e q
   have hb : b ≠ a := fun z => by subst z; exact h.ne j i e d b hj q hi h1 hs
   exact ⟨b, h1, hO j e b q h1, h3, h4.same g1 (fun u e => by rw [upd_ne hb]; exact g3 b u e)⟩
 ·have old : ∀ {j : Nat} {e : D}, (ρ.set i (.o d'))[j]? = some (B.o e) -> ∃ e', ρ[j]? = some (B.o e') := fun {j e} q => by
   by_cases hj : j = i
   ·subst hj; exact ⟨d, hi⟩
   ·rw [List.getElem?_set_ne (Ne.symm hj)] at q; exact ⟨e, q⟩
  obtain ⟨x, q1⟩ := old q
  obtain ⟨y, q2⟩ := old q'
  exact h.ne j k x y b hjk q1 q2 s s'
theorem AbS.dem1 (h : AbS K mg H0 G0 G ρ σ H) (j : Nat) : ∃ G', AbS K mg H0 G0 G' (ρ.set j (demB ((ρ[j]?).getD .n))) σ H /\ Same G G' := by
 cases q : ρ[j]? with
 | none =>
  have : ρ.set j (demB ((none : Option B).getD .n)) = ρ := by
   apply List.set_eq_of_length_le
   exact List.getElem?_eq_none_iff.mp q
  rw [this]
  exact ⟨G, h, Same.refl'⟩
 | some b =>
  have hl : j < ρ.length := (List.getElem?_eq_some_iff.mp q).1
  have same : ∀ b', b = b' -> demB b' = b' -> ∃ G', AbS K mg H0 G0 G' (ρ.set j (demB ((some b).getD .n))) σ H /\ Same G G' := fun b' e e' => by
   subst e
   have : ρ.set j (demB ((some b).getD .n)) = ρ := by
    show ρ.set j (demB b) = ρ
    rw [e']
    apply List.ext_getElem?
    intro k
    by_cases hk : k = j
    ·subst hk; rw [List.getElem?_set_self hl, q]
    ·rw [List.getElem?_set_ne (Ne.symm hk)]
   rw [this]
   exact ⟨G, h, Same.refl'⟩
  cases b with
  | n => exact same .n rfl rfl
  | s d => exact same (.s d) rfl rfl
  | o d =>
   obtain ⟨a, s1, ga, h0a, hw⟩ := h.ow j d q
   show ∃ G', AbS K mg H0 G0 G' (ρ.set j (.s d)) σ H /\ Same G G'
   have lp : Same G (plus G H (· = a)) := le_plus (fun b z => by rw [z]; exact ga)
   refine ⟨plus G H (· = a), ⟨by simp [h.len], h.s0, same_t h.g0 lp, plus_le h.g, fun b o e => (by
     by_cases hb : b = a
     ·exact .inr (by rw [hb]; exact h0a)
     ·unfold plus at e; rw [if_neg hb] at e; exact h.nw b o e), fun k e z => ?_, fun k e z => ?_, fun k l e e' b hkl z z' s s' => ?_⟩, lp⟩
   ·by_cases hk : k = j
    ·subst hk
     rw [List.getElem?_set_self hl] at z; cases z
     exact ⟨.ref a, s1, hw.rd lp (plus_in rfl)⟩
    ·rw [List.getElem?_set_ne (Ne.symm hk)] at z
     obtain ⟨w, h1, h2⟩ := h.sh k e z
     exact ⟨w, h1, h2.same lp⟩
   ·by_cases hk : k = j
    ·subst hk
     rw [List.getElem?_set_self hl] at z; cases z
    ·rw [List.getElem?_set_ne (Ne.symm hk)] at z
     obtain ⟨b, h1, h2, h3, h4⟩ := h.ow k e z
     have hb : b ≠ a := fun y => by subst y; exact h.ne k j e d b hk z q h1 s1
     refine ⟨b, h1, ?_, h3, h4.same lp (fun _ e => e)⟩
     unfold plus
     rw [if_neg hb]; exact h2
   ·have old : ∀ {k : Nat} {e : D}, (ρ.set j (.s d))[k]? = some (B.o e) -> ρ[k]? = some (B.o e) := fun {k e} z => by
     by_cases hk : k = j
     ·subst hk; rw [List.getElem?_set_self hl] at z; cases z
     ·rw [List.getElem?_set_ne (Ne.symm hk)] at z; exact z
    exact h.ne k l e e' b hkl (old z) (old z') s s'
theorem AbS.dem (js : List Nat) : ∀ {G : Hp} {ρ : Pu.Env}, AbS K mg H0 G0 G ρ σ H -> ∃ G', AbS K mg H0 G0 G' (dem js ρ) σ H /\ Same G G' := by
 induction js with
 | nil => intro G ρ h; exact ⟨G, h, Same.refl'⟩
 | cons j js ih =>
  intro G ρ h
  obtain ⟨G1, h1, g1⟩ := h.dem1 j
  obtain ⟨G2, h2, g2⟩ := ih h1
  exact ⟨G2, h2, same_t g1 g2⟩
end
end Pu
set_option Elab.async false
set_option linter.all false
set_option maxRecDepth 100000
set_option maxHeartbeats 4000000
namespace Pu
open PySem PySem.Spec PyProof.Rows L2
def Kn (K : PySem.W.Frag) (mg : Str -> Option Value) (H0 G0 G : Hp) (N0 : Pu.Env -> Prop) (N : L2.St -> Hp -> Prop) : Prop := ∀ ρ' σ' H' G', N0 ρ' -> AbS K mg H0 G0 G' ρ' σ' H' -> Same G G' -> N σ' H'
def Kr (K : PySem.W.Frag) (mg : Str -> Option Value) (H0 G0 : Hp) (R0 : DK) (R : VK) : Prop := ∀ d v G' H', R0 d -> Gr G0 H0 G' -> Same G' H' -> Same H0 H' -> RD K mg G' d v -> R v H'
def ts (K : PySem.W.Frag) (mg : Str -> Option Value) (E : XK) (t : Sm) : TS := fun D σ H => ∃ H0 G0 G ρ N0 R0 X0, AbS K mg H0 G0 G ρ σ H /\ t.run ρ N0 R0 X0 /\ Kn K mg H0 G0 G N0 D.nx /\ Kr K mg H0 G0 R0 D.rt /\ Kx mg H0 X0 E
theorem Kn.same {K : PySem.W.Frag} {mg : Str -> Option Value} {H0 G0 G G1 : Hp} {N0 : Pu.Env -> Prop} {N : L2.St -> Hp -> Prop} (h : Kn K mg H0 G0 G N0 N) (g : Same G G1) : Kn K mg H0 G0 G1 N0 N := fun ρ' σ' H' G' a b c => h ρ' σ' H' G' a b (same_t g c)
abbrev QZ (X : Cx) (E : XK) (st : Stmt) (t : Sm) : Prop := QS X st (ts X.K X.mg E t)
abbrev QZs (X : Cx) (E : XK) (st : List Stmt) (t : Sm) : Prop := QSs X st (ts X.K X.mg E t)
section
variable {X : Cx} {E : XK} {st : Stmt} {rest body la lb : List Stmt} {t u : Sm} {e a b c : Expr} {x y z : Ex} {pos : Pos}
theorem qz_nil : QZs X E [] .skip := QSs.imp qss_nil fun D σ H ⟨H0, G0, G, ρ, N0, R0, X0, ab, hr, hn, hR, hx⟩ => hn ρ σ H G hr ab Same.refl'
theorem qz_one (h : QZ X E st t) : QZs X E [st] t := qss_one h
theorem qz_cons (h : QZ X E st t) (h' : QZs X E rest u) : QZs X E (st :: rest) (.seq t u) := QSs.imp (qss_cons h h') fun D σ H ⟨H0, G0, G, ρ, N0, R0, X0, ab, hr, hn, hR, hx⟩ =>
 ⟨H0, G0, G, ρ, fun ρ' => u.run ρ' N0 R0 X0, R0, X0, ab, hr, fun ρ' σ' H' G' q ab' g => ⟨H0, G0, G', ρ', N0, R0, X0, ab', q, hn.same g, hR, hx⟩, hR, hx⟩
theorem ts_tx {K : PySem.W.Frag} {mg : Str -> Option Value} {H0 G0 G H : Hp} {ρ : Pu.Env} {σ : L2.St} {Q0 : DK} {X0 : XP} {Q : VK} (ab : AbS K mg H0 G0 G ρ σ H) (hr : x.run ρ Q0 X0) (hx : Kx mg H0 X0 E) (hk : Kt K mg (plus G H (Owned ρ σ)) H Q0 Q) : tx K mg E x σ H Q :=
 ⟨plus G H (Owned ρ σ), ρ, Q0, X0, plus_le ab.g, ab.abe, hr, hk, hx.same ab.s0⟩
theorem AbS.back {K : PySem.W.Frag} {mg : Str -> Option Value} {H0 G0 G G1 H H1 : Hp} {ρ : Pu.Env} {σ : L2.St} (ab : AbS K mg H0 G0 G ρ σ H) (g1 : Gr (plus G H (Owned ρ σ)) H G1) (g2 : Same G1 H1) (g3 : Same H H1) : AbS K mg H0 G0 (minus G1 (Owned ρ σ)) ρ σ H1 /\ Same G (minus G1 (Owned ρ σ)) := by
 have hf := ab.free
 have lm : Same G (minus G1 (Owned ρ σ)) := le_minus (same_t (le_plus hf) g1.1) hf
 exact ⟨⟨ab.len, same_t ab.s0 g3, same_t ab.g0 lm, same_t minus_le g2, fun a o e => ab.nw1 g1 a o (minus_le a o e), fun i d e => by
   obtain ⟨v, h1, h2⟩ := ab.sh i d e
   exact ⟨v, h1, h2.same lm⟩, fun i d e => by
   obtain ⟨a, h1, h2, h3, h4⟩ := ab.ow i d e
   exact ⟨a, h1, minus_in ⟨i, d, e, h1⟩, h3, h4.same lm (g3 a)⟩, ab.ne⟩, lm⟩
theorem ts_tt {K : PySem.W.Frag} {mg : Str -> Option Value} {H0 G0 G H : Hp} {ρ : Pu.Env} {σ : L2.St} {A B : Prop} {X0 : XP} {Q : Bool -> Hp -> Prop} (ab : AbS K mg H0 G0 G ρ σ H) (hr : x.run ρ (fun d => tst d A B) X0) (hx : Kx mg H0 X0 E)
  (ha : A -> ∀ H' G', AbS K mg H0 G0 G' ρ σ H' -> Same G G' -> Q true H') (hb : B -> ∀ H' G', AbS K mg H0 G0 G' ρ σ H' -> Same G G' -> Q false H') : tt K mg E x σ H Q := by
 refine ⟨plus G H (Owned ρ σ), ρ, _, X0, plus_le ab.g, ab.abe, hr, fun d G1 H1 q g1 g2 g3 => ?_, hx.same ab.s0⟩
 obtain ⟨b, rfl, q1, q2⟩ := tst_bl q
 refine ⟨b, rfl, ?_⟩
 obtain ⟨ab', lm⟩ := ab.back g1 g2 g3
 cases b with
 | true => exact ha (q1 rfl) H1 _ ab' lm
 | false => exact hb (q2 rfl) H1 _ ab' lm
theorem qz_if (hc : QXT X E c z) (ha : QZs X E la t) (hb : QZs X E lb u) : QZ X E (.If c la lb pos) (.ifs z t u) := QS.imp (qs_if hc ha hb) fun D σ H ⟨H0, G0, G, ρ, N0, R0, X0, ab, hr, hn, hR, hx⟩ => by
 refine ts_tt ab hr hx (fun q H' G' ab' g => ?_) (fun q H' G' ab' g => ?_)
 ·exact iteT ⟨H0, G0, G', ρ, N0, R0, X0, ab', q, hn.same g, hR, hx⟩
 ·exact iteF ⟨H0, G0, G', ρ, N0, R0, X0, ab', q, hn.same g, hR, hx⟩
theorem qz_ret (he : QX X E e x) : QZ X E (.Return (some e) pos) (.ret x) := QS.imp (qs_ret he) fun D σ H ⟨H0, G0, G, ρ, N0, R0, X0, ab, hr, hn, hR, hx⟩ =>
 ts_tx ab hr hx fun d v G1 H1 q g1 g2 g3 rd => hR d v G1 H1 q ⟨same_t ab.g0 (same_t (le_plus ab.free) g1.1), ab.nw1 g1⟩ g2 (same_t ab.s0 g3) rd
def OwnedBut (i : Nat) (ρ : Pu.Env) (σ : L2.St) (a : Addr) : Prop := ∃ (j : Nat) (d : D), j ≠ i /\ ρ[j]? = some (B.o d) /\ σ[j]? = some (some (V.ref a))
theorem qz_asg {i : Nat} {tg : Expr} (h : QS X (.Assign [tg] e pos) (tAsg (tx X.K X.mg E x) (gName i))) : QZ X E (.Assign [tg] e pos) (.set i x) := QS.imp h fun D σ H ⟨H0, G0, G, ρ, N0, R0, X0, ab, hr, hn, hR, hx⟩ =>
 ts_tx ab hr hx fun d v G1 H1 q g1 g2 g3 rd => by
  have hf : ∀ a, OwnedBut i ρ σ a -> G a = none := fun a ⟨j, d, _, h1, h2⟩ => ab.free a ⟨j, d, h1, h2⟩
  have lm : Same G (minus G1 (OwnedBut i ρ σ)) := le_minus (same_t (le_plus ab.free) g1.1) hf
  exact hn (ρ.set i (.s d)) (σ.set i (some v)) H1 _ q.2 (ab.put (fun a o e => ab.nw1 g1 a o (minus_le a o e)) lm (same_t minus_le g2) g3 (fun j d' a hj e s => minus_in ⟨j, d', hj, e, s⟩) (safe_minus ab g2 g3 q.1 rd)) lm
def Kf (K : PySem.W.Frag) (mg : Str -> Option Value) (G H : Hp) (Q0 : DK) (Q : VK) : Prop := ∀ d a G' H', Q0 d -> Gr G H G' -> Same G' H' -> Same H H' -> H a = none -> G' a = none -> OwnAt K mg G' H' a d -> Q (.ref a) H'
def tf (K : PySem.W.Frag) (mg : Str -> Option Value) (E : XK) (e : Ex) : TE := fun σ H Q => ∃ G ρ Q0 X0, Same G H /\ AbE K mg G ρ σ /\ e.run ρ Q0 X0 /\ Kf K mg G H Q0 Q /\ Kx mg H X0 E
abbrev QF (X : Cx) (E : XK) (e : Expr) (x : Ex) : Prop := QE X e (tf X.K X.mg E x)
theorem Kt.kf {K : PySem.W.Frag} {mg : Str -> Option Value} {G H : Hp} {Q0 : DK} {Q : VK} (h : Kt K mg G H Q0 Q) : Kf K mg G H Q0 Q := fun d a G' H' q g1 g2 g3 hn gn hw => by
 obtain ⟨o, ho⟩ := hw.some
 have lp : Same G' (upd G' a o) := same_new gn o
 refine h d (.ref a) (upd G' a o) H' q ⟨same_t g1.1 lp, fun b u e => ?_⟩ (fun b u e => ?_) g3 (hw.rd lp (by rw [upd_same]; exact ho.symm))
 ·by_cases hb : b = a
  ·subst hb; exact .inr hn
  ·rw [upd_ne hb] at e; exact g1.2 b u e
 ·by_cases hb : b = a
  ·subst hb; rw [upd_same] at e; rw [ho]; exact e
  ·rw [upd_ne hb] at e; exact g2 b u e
theorem QF.qx (h : QF X E e x) : QX X E e x := QE.imp h fun σ H Q ⟨G, ρ, Q0, X0, hs, ab, hr, hk, hx⟩ => ⟨G, ρ, Q0, X0, hs, ab, hr, hk.kf, hx⟩
theorem qz_own {i : Nat} {tg : Expr} (h : QS X (.Assign [tg] e pos) (tAsg (tf X.K X.mg E x) (gName i))) : QZ X E (.Assign [tg] e pos) (.own i x) := QS.imp h fun D σ H ⟨H0, G0, G, ρ, N0, R0, X0, ab, hr, hn, hR, hx⟩ => by
 refine ⟨plus G H (Owned ρ σ), ρ, _, X0, plus_le ab.g, ab.abe, hr, fun d a G1 H1 q g1 g2 g3 ha ga hw => ?_, hx.same ab.s0⟩
 have hf : ∀ a, OwnedBut i ρ σ a -> G a = none := fun a ⟨j, d, _, h1, h2⟩ => ab.free a ⟨j, d, h1, h2⟩
 have lm : Same G (minus G1 (OwnedBut i ρ σ)) := le_minus (same_t (le_plus ab.free) g1.1) hf
 have items : ∀ (l : List Pu.D) (xs : List V), (∀ x ∈ l, Safe x (ρ.set i .n)) -> RDs X.K X.mg G1 l xs -> RDs X.K X.mg (minus G1 (OwnedBut i ρ σ)) l xs := by
  intro l
  induction l with
  | nil => intro xs _ h; rw [RDs] at h ⊢; exact h
  | cons y l ih =>
   intro xs hs h
   rw [RDs] at h ⊢
   obtain ⟨v, r, h1, h2, h3⟩ := h
   exact ⟨v, r, h1, safe_minus ab g2 g3 (hs y List.mem_cons_self) h2, ih r (fun z hz => hs z (List.mem_cons_of_mem _ hz)) h3⟩
 have na : minus G1 (OwnedBut i ρ σ) a = none := by
  unfold minus
  split
  ·rfl
  ·exact ga
 refine hn (ρ.set i (.o d)) (σ.set i (some (.ref a))) H1 _ q.2 (ab.own (fun a o e => ab.nw1 g1 a o (minus_le a o e)) lm (same_t minus_le g2) g3 (fun j d' a hj e s => minus_in ⟨j, d', hj, e, s⟩) ha na ?_) lm
 have q1 := q.1
 cases d with
 | lst l =>
  obtain ⟨xs, h1, h2⟩ := hw
  exact ⟨xs, h1, items l xs q1 h2⟩
 | dct ks vs =>
  obtain ⟨xs, h1, h2⟩ := hw
  exact ⟨xs, items vs xs q1 h1, h2⟩
 | _ => exact q1.elim
end
end Pu
set_option Elab.async false
set_option linter.all false
set_option maxRecDepth 100000
set_option maxHeartbeats 4000000
namespace Pu
open PySem PySem.Spec PyProof.Rows L2
section
variable {X : Cx} {E : XK} {st : Stmt} {rest body la lb : List Stmt} {t u : Sm} {e a b c tg iter : Expr} {x y z : Ex} {pos : Pos}
theorem onL_some {o : Option (List D)} {Q : List D -> Prop} (h : onL o Q) : ∃ l, o = some l /\ Q l := by
 cases o with
 | none => exact h.elim
 | some l => exact ⟨l, rfl, h⟩
theorem qz_while (hp : PassesOwn (model X.prog X.w) X.A X.env X.xe) (hc : QXT X E c z) (hb : QZs X E body t) : QZ X E (.While c body [] pos) (.wh z t) := QS.imp (qs_while hp hc hb) fun D σ H ⟨H0, G0, G, ρ, N0, R0, X0, ab, ⟨n, hr⟩, hn, hR, hx⟩ => by
 refine ⟨fun m σ' H' => ∃ G' ρ', AbS X.K X.mg H0 G0 G' ρ' σ' H' /\ Same G G' /\ wh z t N0 R0 X0 m ρ', ⟨n, G, ρ, ab, Same.refl', hr⟩, ?_⟩
 rintro m σ1 H1 ⟨G1, ρ1, ab1, g1, h1⟩
 cases m with
 | zero => exact h1.elim
 | succ m =>
  refine ts_tt ab1 h1 hx (fun q H2 G2 ab2 g2 => ?_) (fun q H2 G2 ab2 g2 => ?_)
  ·refine iteT ⟨fun σ' H' => ∃ G' ρ', AbS X.K X.mg H0 G0 G' ρ' σ' H' /\ Same G G' /\ wh z t N0 R0 X0 m ρ', fun σ' H' w => ⟨m, Nat.lt_succ_self _, w⟩, ?_⟩
   exact ⟨H0, G0, G2, ρ1, wh z t N0 R0 X0 m, R0, X0, ab2, q, fun ρ' σ' H' G' w ab' g' => ⟨G', ρ', ab', same_t g1 (same_t g2 g'), w⟩, hR, hx⟩
  ·exact iteF (hn ρ1 σ1 H2 G2 q ab2 (same_t g1 g2))
def Walk (K : PySem.W.Frag) (mg : Str -> Option Value) (G : Hp) (l : List D) (J : It) : Prop := ∀ (i : Nat) (G1 H : Hp), Same G G1 -> Same G1 H ->
 (∀ d, l[i]? = some d -> J.go i H /\ ∀ v H', J.yld i H v H' -> Same H H' /\ ∃ G2, Gr G1 H G2 /\ Same G2 H' /\ RD K mg G2 d v) /\ (l.length <= i -> J.stop i H)
def ti (K : PySem.W.Frag) (mg : Str -> Option Value) (E : XK) (e : Ex) : TI := fun σ H R => ∃ G ρ Q0 X0, Same G H /\ AbE K mg G ρ σ /\ e.run ρ Q0 X0 /\ (∀ d, Q0 d -> ∃ l, items d = some l) /\ (∀ d G' H', Q0 d -> Gr G H G' -> Same G' H' -> Same H H' -> ∀ l J, items d = some l -> Walk K mg G' l J -> R J H') /\ Kx mg H X0 E
abbrev QXI (X : Cx) (E : XK) (tg e : Expr) (x : Ex) : Prop := QI X tg e (ti X.K X.mg E x)
def tgt (K : PySem.W.Frag) : Tg -> TG
 | .nm i => gName i
 | .tp is => gTup K is.length (is.foldr (fun i r => gCons (gName i) r) gNil)
theorem gcons_put {K : PySem.W.Frag} : ∀ (is : List Nat) (vs : List V) (σ : L2.St) (H : Hp) (Q : L2.St -> Hp -> Prop), is.length = vs.length -> Q ((is.zip vs).foldl (fun σ p => σ.set p.1 (some p.2)) σ) H -> (is.foldr (fun i r => gCons (gName i) r) gNil) vs σ H Q
 | [], [], _, _, _, _, q => ⟨rfl, q⟩
 | [], _ :: _, _, _, _, h, _ => by simp at h
 | _ :: _, [], _, _, _, h, _ => by simp at h
 | i :: is, v :: vs, σ, H, Q, h, q => ⟨v, vs, rfl, gcons_put (K := K) is vs _ H Q (by simpa using h) q⟩
theorem AbS.putAll {K : PySem.W.Frag} {mg : Str -> Option Value} {H0 G0 H : Hp} : ∀ (is : List Nat) (ds : List D) (vs : List V) {G : Hp} {ρ : Pu.Env} {σ : L2.St}, is.length = ds.length -> RDs K mg G ds vs -> AbS K mg H0 G0 G ρ σ H ->
  AbS K mg H0 G0 G (setAll is ds ρ) ((is.zip vs).foldl (fun σ p => σ.set p.1 (some p.2)) σ) H
 | [], [], vs, G, ρ, σ, _, h, ab => by rw [RDs] at h; subst h; exact ab
 | [], _ :: _, _, _, _, _, h, _, _ => by simp at h
 | _ :: _, [], _, _, _, _, h, _, _ => by simp at h
 | i :: is, d :: ds, vs, G, ρ, σ, h, r, ab => by
  rw [RDs] at r
  obtain ⟨v, vs', rfl, h1, h2⟩ := r
  exact AbS.putAll is ds vs' (by simpa using h) h2 (ab.put ab.nw Same.refl' ab.g Same.refl' (fun j d' a hj e s => ab.free a ⟨j, d', e, s⟩) h1)
theorem tgt_put {K : PySem.W.Frag} {mg : Str -> Option Value} {H0 G0 G H : Hp} {ρ : Pu.Env} {σ : L2.St} {tg : Tg} {d : D} {v : V} {N0 : Pu.Env -> Prop} {N : L2.St -> Hp -> Prop} (ab : AbS K mg H0 G0 G ρ σ H) (rd : RD K mg G d v) (hp : tg.put d ρ N0) (hn : ∀ ρ' σ', N0 ρ' -> AbS K mg H0 G0 G ρ' σ' H -> N σ' H) : tgt K tg v σ H N := by
 cases tg with
 | nm i => exact hn _ _ hp (ab.put ab.nw Same.refl' ab.g Same.refl' (fun j d' a hj e s => ab.free a ⟨j, d', e, s⟩) rd)
 | tp is =>
  cases d with
  | tup ds =>
   obtain ⟨hl, hp⟩ := hp
   rw [RD] at rd
   obtain ⟨a, xs, rfl, h1, h2⟩ := rd
   exact ⟨a, xs, rfl, same_T ab.g h1, by rw [h2.len, hl], gcons_put (K := K) is xs σ H N (by rw [h2.len, hl]) (hn _ _ hp (ab.putAll is ds xs hl h2))⟩
  | _ => exact hp.elim
theorem AbS.over {K : PySem.W.Frag} {mg : Str -> Option Value} {H0 G0 G G2 H H2 : Hp} {ρ : Pu.Env} {σ : L2.St} (ab : AbS K mg H0 G0 G ρ σ H) (g2 : Gr G H G2) (k2 : Same G2 H2) (s2 : Same H H2) : AbS K mg H0 G0 G2 ρ σ H2 where
 len := ab.len
 s0 := same_t ab.s0 s2
 g0 := same_t ab.g0 g2.1
 g := k2
 nw := ab.nw2 g2
 sh := fun i d e => by
  obtain ⟨v, h1, h2⟩ := ab.sh i d e
  exact ⟨v, h1, h2.same g2.1⟩
 ow := fun i d e => by
  obtain ⟨a, h1, h2, h3, h4⟩ := ab.ow i d e
  refine ⟨a, h1, ?_, h3, h4.same g2.1 (s2 a)⟩
  cases z : G2 a with
  | none => rfl
  | some o =>
   obtain ⟨u, hu⟩ := h4.some
   rcases g2.2 a o z with ⟨w, q⟩ | q
   ·rw [h2] at q; cases q
   ·rw [hu] at q; cases q
 ne := ab.ne
theorem for_turns {K : PySem.W.Frag} {mg : Str -> Option Value} {H0 G0 G H : Hp} {ρ : Pu.Env} {σ : L2.St} {l : List D} {J : It} {tg : Tg} {N0 : Pu.Env -> Prop} {R0 : DK} {X0 : XP} {De : Ends} (ab : AbS K mg H0 G0 G ρ σ H) (hw : Walk K mg G l J) (hr : forL tg t N0 R0 X0 l ρ)
  (hn : Kn K mg H0 G0 G N0 De.nx) (hR : Kr K mg H0 G0 R0 De.rt) (hx : Kx mg H0 X0 E) :
  ∃ W : Nat -> Nat -> L2.St -> Hp -> Prop, (∃ m, W 0 m σ H) /\ ∀ i m σ H, W i m σ H ->
   (J.stop i H /\ De.nx σ H) \/ (J.go i H /\ ∃ N : L2.St -> Hp -> Prop, (∀ σ' H', N σ' H' -> ∃ m', m' < m /\ W (i + 1) m' σ' H') /\ ∀ x H', J.yld i H x H' -> tgt K tg x σ H' fun σ2 H2 => ts K mg E t { De with nx := N, ct := N, bk := De.nx } σ2 H2) := by
 refine ⟨fun i m σ H => m = l.length - i /\ i <= l.length /\ ∃ G1 ρ1, AbS K mg H0 G0 G1 ρ1 σ H /\ Same G G1 /\ forL tg t N0 R0 X0 (l.drop i) ρ1, ⟨l.length, by simp, Nat.zero_le _, G, ρ, ab, Same.refl', by simpa using hr⟩, ?_⟩
 rintro i m σ1 H1 ⟨rfl, hi, G1, ρ1, ab1, g1, h1⟩
 obtain ⟨w1, w2⟩ := hw i G1 H1 g1 ab1.g
 by_cases hlt : i < l.length
 ·have e : l[i]? = some l[i] := by simp [hlt]
  obtain ⟨go, yl⟩ := w1 _ e
  rw [List.drop_eq_getElem_cons hlt] at h1
  refine .inr ⟨go, fun σ' H' => ∃ G2 ρ2, AbS K mg H0 G0 G2 ρ2 σ' H' /\ Same G G2 /\ forL tg t N0 R0 X0 (l.drop (i + 1)) ρ2, fun σ' H' w => ⟨l.length - (i + 1), by omega, rfl, hlt, w⟩, fun v H2 y => ?_⟩
  obtain ⟨s2, G2, g2, k2, rd⟩ := yl v H2 y
  have ab2 := ab1.over g2 k2 s2
  refine tgt_put ab2 rd h1 fun ρ3 σ3 hb ab3 => ?_
  exact ⟨H0, G0, G2, ρ3, _, R0, X0, ab3, hb, fun ρ' σ' H' G' w ab' g' => ⟨G', ρ', ab', same_t g1 (same_t g2.1 g'), w⟩, hR, hx⟩
 ·have e : i = l.length := by omega
  subst e
  rw [List.drop_length] at h1
  exact .inl ⟨w2 (Nat.le_refl _), hn ρ1 σ1 H1 G1 h1 ab1 g1⟩
theorem qz_for {js : List Nat} {g : Tg} (hp : PassesOwn (model X.prog X.w) X.A X.env X.xe) (hc : X.calm = true) (hi : QXI X E tg iter x) (hg : QG X tg (tgt X.K g)) (hb : QZs X E body t) (hs : ∀ x, foldedSetIterable iter X.env x = pure x := by intro _; rfl) :
  QZ X E (.For tg iter body [] pos) (.for_ js g x t) := QS.imp (qs_for hp hc hi hg hb hs) fun D σ H ⟨H0, G0, G, ρ, N0, R0, X0, ab, hr, hn, hR, hx⟩ => by
 obtain ⟨G', ab', g'⟩ := ab.dem js
 refine ⟨G', vis (dem js ρ), _, X0, ab'.g, ab'.vis, hr, fun d q => (onL_some q).imp fun _ z => z.1, fun d G1 H1 q g1 g2 g3 l J el hw => ?_, hx.same ab.s0⟩
 have q' : onL (items d) fun l => forL g t N0 R0 X0 l (dem js ρ) := q
 rw [el] at q'
 exact for_turns (E := E) (ab'.over g1 g2 g3) hw q' (hn.same (same_t g' g1.1)) hR hx
theorem walk_range {K : PySem.W.Frag} {mg : Str -> Option Value} {G : Hp} {lo : Int} {n : Nat} : Walk K mg G ((List.range n).map fun (k : Nat) => D.int (lo + (k : Int))) (Itr lo n) := fun i G1 H g1 g2 => by
 refine ⟨fun d e => ?_, fun hi => (show n <= i by simpa using hi)⟩
 obtain ⟨h, e'⟩ := List.getElem?_eq_some_iff.mp e
 have hi : i < n := by simpa using h
 refine ⟨hi, fun v H' y => ?_⟩
 obtain ⟨rfl, rfl⟩ := y
 refine ⟨Same.refl', G1, Gr.refl, g2, ?_⟩
 rw [<- e']
 simp only [List.getElem_map, List.getElem_range]
 rw [RD]
theorem rd_int {K : PySem.W.Frag} {mg : Str -> Option Value} {G : Hp} {i : Int} {v : V} (h : RD K mg G (.int i) v) : v = .int i := by rw [RD] at h; exact h
theorem rds1 {K : PySem.W.Frag} {mg : Str -> Option Value} {G : Hp} {d : D} {vs : List V} (h : RDs K mg G [d] vs) : ∃ v, vs = [v] /\ RD K mg G d v := by
 rw [RDs] at h
 obtain ⟨x, r, rfl, h1, h2⟩ := h
 rw [RDs] at h2
 subst h2
 exact ⟨x, rfl, h1⟩
theorem rds2 {K : PySem.W.Frag} {mg : Str -> Option Value} {G : Hp} {d e : D} {vs : List V} (h : RDs K mg G [d, e] vs) : ∃ v w, vs = [v, w] /\ RD K mg G d v /\ RD K mg G e w := by
 rw [RDs] at h
 obtain ⟨x, r, rfl, h1, h2⟩ := h
 obtain ⟨y, rfl, h3⟩ := rds1 h2
 exact ⟨x, y, rfl, h1, h3⟩
theorem onR_some {K : PySem.W.Frag} {mg : Str -> Option Value} {G : Hp} {ds : List D} {vs : List V} {Kk : List D -> Prop} (rds : RDs K mg G ds vs) (h : onR ds Kk) :
  (∃ j : Int, vs = [.int j] /\ -(2 ^ 62) <= j /\ j < 2 ^ 62 /\ Kk ((List.range j.toNat).map fun (k : Nat) => D.int (0 + (k : Int)))) \/ ∃ i j : Int, vs = [.int i, .int j] /\ (-(2 ^ 62) <= i /\ i < 2 ^ 62 /\ -(2 ^ 62) <= j /\ j < 2 ^ 62) /\ Kk ((List.range (j - i).toNat).map fun (k : Nat) => D.int (i + (k : Int))) := by
 unfold onR at h
 split at h
 ·obtain ⟨v, rfl, r1⟩ := rds1 rds
  refine .inl ⟨_, by rw [rd_int r1], h.1.1, h.1.2, ?_⟩
  simpa using h.2
 ·obtain ⟨v, w, rfl, r1, r2⟩ := rds2 rds
  exact .inr ⟨_, _, by rw [rd_int r1, rd_int r2], ⟨h.1.1.1, h.1.1.2, h.1.2.1, h.1.2.2⟩, h.2⟩
 ·exact h.elim
theorem txa_imp {K : PySem.W.Frag} {mg : Str -> Option Value} {es : List Ex} {n : Nat} {σ : L2.St} {H : Hp} {Q Q' : List V -> Hp -> Prop} (hl : es.length = n) (m : ∀ vs H1, vs.length = n -> Q vs H1 -> Q' vs H1) (h : txa K mg E es σ H Q) : txa K mg E es σ H Q' := by
 obtain ⟨G, ρ, Q0, X0, hs, ab, hr, hk, hx⟩ := h
 have len : ∀ (es : List Ex) (Q : List D -> Prop), runs es ρ Q X0 -> runs es ρ (fun ds => ds.length = es.length /\ Q ds) X0 := by
  intro es
  induction es with
  | nil => intro Q h; exact ⟨rfl, h⟩
  | cons e es ih =>
   intro Q h
   exact e.mono ρ _ _ X0 X0 (fun d q => runs_mono es ρ _ _ X0 X0 (fun ds q => ⟨by simp [q.1], q.2⟩) (fun _ z => z) (ih _ q)) (fun _ z => z) h
 exact ⟨G, ρ, _, X0, hs, ab, len es Q0 hr, fun ds vs G1 H1 q g1 g2 g3 rds => m vs H1 (by rw [rds.len, q.1, hl]) (hk ds vs G1 H1 q.2 g1 g2 g3 rds), hx⟩
theorem qz_forr {g : Tg} {es : List Ex} {wi : TI} (hp : PassesOwn (model X.prog X.w) X.A X.env X.xe) (hc : X.calm = true) (hg : QG X tg (tgt X.K g)) (hb : QZs X E body t)
  (hri : ∀ σ H R, (txa X.K X.mg E es σ H fun vs H1 => (∃ j : Int, vs = [.int j] /\ -(2 ^ 62) <= j /\ j < 2 ^ 62 /\ R (Itr 0 j.toNat) H1) \/ ∃ i j : Int, vs = [.int i, .int j] /\ (-(2 ^ 62) <= i /\ i < 2 ^ 62 /\ -(2 ^ 62) <= j /\ j < 2 ^ 62) /\ R (Itr i (j - i).toNat) H1) -> wi σ H R) (hi' : QI X tg iter wi)
  (hs : ∀ x, foldedSetIterable iter X.env x = pure x := by intro _; rfl) :
  QZ X E (.For tg iter body [] pos) (.forr es g t) := QS.imp (qs_for hp hc hi' hg hb hs) fun De σ H ⟨H0, G0, G, ρ, N0, R0, X0, ab, hr, hn, hR, hx⟩ => by
 refine hri σ H _ ⟨plus G H (Owned ρ σ), ρ, fun ds => onR ds fun l => forL g t N0 R0 X0 l ρ, X0, plus_le ab.g, ab.abe, hr, fun ds vs G1 H1 q g1 g2 g3 rds => ?_, hx.same ab.s0⟩
 obtain ⟨ab', lm⟩ := ab.back g1 g2 g3
 rcases onR_some rds q with ⟨j, e, h1, h2, q'⟩ | ⟨i, j, e, h1, q'⟩
 ·exact .inl ⟨j, e, h1, h2, for_turns (E := E) ab' walk_range q' (hn.same lm) hR hx⟩
 ·exact .inr ⟨i, j, e, h1, for_turns (E := E) ab' walk_range q' (hn.same lm) hR hx⟩
theorem qz_forr1 {g : Tg} {p pos2 : Pos} (hp : PassesOwn (model X.prog X.w) X.A X.env X.xe) (hc : X.calm = true) (hgr : Gl X "range") (hm : X.mg "range" = none) (ha : QXA X E [a] [x]) (hg : QG X tg (tgt X.K g)) (hb : QZs X E body t) (hst : starEach [a] X.env = [(false, eval a X.env)] := by rfl)
  (hs : ∀ x, foldedSetIterable (.Call (.Name "range" p) [a] [] pos2) X.env x = pure x := by intro _; rfl) : QZ X E (.For tg (.Call (.Name "range" p) [a] [] pos2) body [] pos) (.forr [x] g t) :=
 qz_forr hp hc hg hb (fun σ H R h => txa_imp (n := 1) rfl (fun vs H1 hl q => by
  rcases q with q | ⟨i, j, e, _⟩
  ·exact q
  ·rw [e] at hl; simp at hl) h) (qi_range1 hgr hm ha hst) hs
def iAny (K : PySem.W.Frag) (tl : TE) : TI := fun σ H R => tl σ H fun x H1 => (∃ a, x = .ref a /\ (∃ xs, SqL K H1 a xs) /\ R (Itl K a) H1) \/ (∃ a, x = .ref a /\ (∃ xs, SqT K H1 a xs) /\ R (Itt K a) H1) \/ ∃ y, x = .str y /\ R (Its y) H1
theorem qi_any {l : Expr} {tl : TE} (hl : QE X l tl) : QI X tg l (iAny X.K tl) := by
 constructor
 intro pins s σ H R I h
 refine thn (hl.p pins s σ H _ I h) fun v s1 ⟨x, H1, I1, r1, q1⟩ => ?_
 have fp : ∀ b ∈ [s1.heap.objs.size], FpOk X pins H1 b := fun b hb => by
  have e : b = s1.heap.objs.size := by simpa using hb
  subst e
  exact I1.fpOk (Nat.le_refl _) (I1.hok.fresh (Nat.le_refl _))
 rcases q1 with ⟨a, e, ⟨xs, hq⟩, q⟩ | ⟨a, e, ⟨xs, hq⟩, q⟩ | ⟨y, rfl, q⟩
 ·subst e
  cases r1
  obtain ⟨its, rv, p, hz⟩ := I1.list hq
  refine wpAny_pyIter_list p.isList ?_
  exact ⟨s1.heap.objs.size, [s1.heap.objs.size], _, _, H1, rfl, I1.kept (t' := s1.toks) fun b o e => Heap.get?_push_of_some _ e, turn_list a _, ⟨_, Heap.get?_push_size _ rfl, rfl, rfl⟩, fp, q⟩
 ·subst e
  cases r1
  obtain ⟨its, rv, p, hz⟩ := I1.tuple hq
  refine wpAny_pyIter_tuple (show s1.heap.IsTuple a its.toArray from p) ?_
  exact ⟨s1.heap.objs.size, [s1.heap.objs.size], _, _, H1, rfl, I1.kept (t' := s1.toks) fun b o e => Heap.get?_push_of_some _ e, turn_tuple a _, ⟨_, Heap.get?_push_size _ rfl, rfl, rfl⟩, fp, q⟩
 ·obtain ⟨t, rfl⟩ := r1
  cases ha : y.cps.all (· < 128)
  ·exact wpAny_pyIter_wide ha ⟨s1.heap.objs.size, [s1.heap.objs.size], _, _, H1, rfl, I1.kept (t' := s1.toks) fun b o e => Heap.get?_push_of_some _ e, turn_str y t _ (by decide) (fun A' hA => Walks.strWide hA _ y t) (fun A i s Q E st h => wpAny_pyIter_striter_wide st h), ⟨Nat.zero_le _, _, Heap.get?_push_size _ rfl, rfl, rfl⟩, fp, q⟩
  ·exact wpAny_pyIter_ascii ha ⟨s1.heap.objs.size, [s1.heap.objs.size], _, _, H1, rfl, I1.kept (t' := s1.toks) fun b o e => Heap.get?_push_of_some _ e, turn_str y t _ (by decide) (fun A' hA => Walks.strAscii hA _ y t) (fun A i s Q E st h => wpAny_pyIter_striter_ascii st h), ⟨Nat.zero_le _, _, Heap.get?_push_size _ rfl, rfl, rfl⟩, fp, q⟩
theorem walk_list {K : PySem.W.Frag} {mg : Str -> Option Value} {G : Hp} {a : Addr} {xs : List V} {l : List D} (h : SqL K G a xs) (r : RDs K mg G l xs) : Walk K mg G l (Itl K a) := fun i G1 H g1 g2 => by
 have hH := same_L (same_t g1 g2) h
 refine ⟨fun d e => ?_, fun hi => ⟨xs, hH, by rw [r.len]; exact hi⟩⟩
 obtain ⟨v, ev, rv⟩ := r.get e
 refine ⟨⟨xs, v, hH, ev⟩, fun v' H' y => ?_⟩
 obtain ⟨rfl, y⟩ := y
 have := y xs hH
 rw [ev] at this
 cases this
 exact ⟨Same.refl', G1, Gr.refl, g2, rv.same g1⟩
theorem walk_tup {K : PySem.W.Frag} {mg : Str -> Option Value} {G : Hp} {a : Addr} {xs : List V} {l : List D} (h : SqT K G a xs) (r : RDs K mg G l xs) : Walk K mg G l (Itt K a) := fun i G1 H g1 g2 => by
 have hH := same_T (same_t g1 g2) h
 refine ⟨fun d e => ?_, fun hi => ⟨xs, hH, by rw [r.len]; exact hi⟩⟩
 obtain ⟨v, ev, rv⟩ := r.get e
 refine ⟨⟨xs, v, hH, ev⟩, fun v' H' y => ?_⟩
 obtain ⟨rfl, y⟩ := y
 have := y xs hH
 rw [ev] at this
 cases this
 exact ⟨Same.refl', G1, Gr.refl, g2, rv.same g1⟩
theorem walk_str {K : PySem.W.Frag} {mg : Str -> Option Value} {G : Hp} {y : Str} : Walk K mg G (y.cps.toList.map fun c => .str ⟨#[c]⟩) (Its y) := fun i G1 H g1 g2 => by
 refine ⟨fun d e => ?_, fun hi => (show y.cps.size <= i by simpa using hi)⟩
 rw [List.getElem?_map] at e
 cases q : y.cps.toList[i]? with
 | none => rw [q] at e; cases e
 | some c =>
  rw [q] at e
  cases e
  have hi : i < y.cps.size := by
   have := (List.getElem?_eq_some_iff.mp q).1
   simpa using this
  refine ⟨hi, fun v H' yl => ?_⟩
  obtain ⟨rfl, c', ec, rfl⟩ := yl
  have : c' = c := by
   have q' : y.cps[i]? = some c := by simpa using q
   rw [q'] at ec; exact (Option.some.inj ec).symm
  subst this
  exact ⟨Same.refl', G1, Gr.refl, g2, by rw [RD]⟩
theorem qi_x (h : QX X E iter x) : QXI X E tg iter x := QI.imp (qi_any h) fun σ H R ⟨G, ρ, Q0, X0, hs, ab, hr, hz, hk, hx⟩ => by
 refine ⟨G, ρ, Q0, X0, hs, ab, hr, fun d v G1 H1 q g1 g2 g3 rd => ?_, hx⟩
 cases d with
 | lst l =>
  rw [RD] at rd
  obtain ⟨a, xs, rfl, h1, h2⟩ := rd
  exact .inl ⟨a, rfl, ⟨xs, same_L g2 h1⟩, hk _ G1 H1 q g1 g2 g3 l _ rfl (walk_list h1 h2)⟩
 | tup l =>
  rw [RD] at rd
  obtain ⟨a, xs, rfl, h1, h2⟩ := rd
  exact .inr (.inl ⟨a, rfl, ⟨xs, same_T g2 h1⟩, hk _ G1 H1 q g1 g2 g3 l _ rfl (walk_tup h1 h2)⟩)
 | str y =>
  rw [RD] at rd
  subst rd
  exact .inr (.inr ⟨y, rfl, hk _ G1 H1 q g1 g2 g3 _ _ rfl walk_str⟩)
 | _ =>
  obtain ⟨l, e⟩ := hz _ q
  cases e
end
end Pu
set_option Elab.async false
set_option linter.all false
set_option maxRecDepth 100000
set_option maxHeartbeats 4000000
namespace Pu
open PySem PySem.Spec PyProof.Rows L2
section
variable {K : PySem.W.Frag} {mg : Str -> Option Value} {H0 G0 G G1 H H1 : Hp} {ρ : Pu.Env} {σ : L2.St} {i : Nat}
theorem ownL_some {Kk : List D -> Prop} (h : ownL ρ i Kk) : ∃ l, ρ[i]? = some (B.o (.lst l)) /\ Kk l := by
 unfold ownL at h
 split at h
 ·rename_i l e; exact ⟨l, e, h⟩
 ·exact h.elim
theorem owned_eq : (fun a => ∃ (j : Nat) (d : D), True /\ ρ[j]? = some (B.o d) /\ σ[j]? = some (some (V.ref a))) = Owned ρ σ := by
 funext a
 exact propext ⟨fun ⟨j, d, _, h⟩ => ⟨j, d, h⟩, fun ⟨j, d, h⟩ => ⟨j, d, trivial, h⟩⟩
theorem safe_owned {d : D} {v : V} (h : AbS K mg H0 G0 G ρ σ H) (g2 : Same G1 H1) (g3 : Same H H1) (sf : Safe d ρ) (rd : RD K mg G1 d v) : RD K mg (minus G1 (Owned ρ σ)) d v := by
 have := safe_minus' h g2 g3 sf rd
 rw [owned_eq] at this
 exact this
theorem AbS.wrB {l l' : List D} {a : Addr} {ys : List V} (ab : AbS K mg H0 G0 G ρ σ H) (g1 : Gr (plus G H (Owned ρ σ)) H G1) (g2 : Same G1 H1) (g3 : Same H H1) (hi : ρ[i]? = some (B.o (.lst l))) (hs : σ[i]? = some (some (V.ref a))) (hr : RDs K mg (minus G1 (Owned ρ σ)) l' ys) :
  AbS K mg H0 G0 (minus G1 (Owned ρ σ)) (ρ.set i (.o (.lst l'))) σ (upd H1 a (.lst ys)) /\ Same G (minus G1 (Owned ρ σ)) := by
 have lm : Same G (minus G1 (Owned ρ σ)) := le_minus (same_t (le_plus ab.free) g1.1) ab.free
 exact ⟨ab.wr (fun a o e => ab.nw1 g1 a o (minus_le a o e)) lm (same_t minus_le g2) g3 (fun j d' a e s => minus_in ⟨j, d', e, s⟩) hi hs ⟨ys, upd_same, hr⟩, lm⟩
end
section
variable {X : Cx} {E : XK} {st : Stmt} {t : Sm} {e o tg : Expr} {x y z : Ex} {pos cpos apos : Pos} {i j : Nat}
theorem qz_app (ho : QE X o (tVar i)) (ha : QXA X E [e] [x])
  (hs : swapsWith (.Call (.Attribute o "append" apos) [e] [] cpos) none pos.line X.env = pure false := by rfl)
  (hbase : attributeBase o "append" X.env (eval o X.env) = eval o X.env := by rfl)
  (hfew : ((backTo cpos (starEach [e] X.env)).all (fun x => !x.1) && (backToKw cpos (keywordEach [] X.env)).all (fun x => x.1.isSome)
   && decide ([e].length + ([] : List Keyword).length + (if ([] : List Keyword).isEmpty then 0 else 1) < 30)) = true := by rfl)
  (hline : (apos.endLine == cpos.line) = true := by rfl) (hst : starEach [e] X.env = (false, eval e X.env) :: starEach [] X.env := by rfl) (hplain : (backTo cpos (starEach [] X.env)).any (·.1) = false := by rfl) :
  QZ X E (.Expr (.Call (.Attribute o "append" apos) [e] [] cpos) pos) (.app i x) :=
 QS.imp (qs_expr (qe_bm PySem.F.plainAttrs_list PySem.F.slot_list_append PySem.F.type_list_append mt_list_append ho ha hbase hfew hline hst hplain) hs) fun De σ H ⟨H0, G0, G, ρ, N0, R0, X0, ab, hr, hn, hR, hx⟩ => by
  obtain ⟨l, hl, hr⟩ := ownL_some hr
  obtain ⟨a, s1, ga, h0, xs, hw, hrd⟩ := ab.ow i _ hl
  refine ⟨.ref a, s1, .inl ⟨rfl, xs, SqL.of hw⟩, ?_⟩
  refine ⟨plus G H (Owned ρ σ), ρ, fun ds => ∃ d, ds = [d] /\ l.length < sizeLine /\ Safe d ρ /\ N0 (ρ.set i (.o (.lst (l ++ [d])))), X0, plus_le ab.g, ab.abe, x.mono ρ _ _ X0 X0 (fun d q => ⟨d, rfl, q⟩) (fun _ z => z) hr, ?_, hx.same ab.s0⟩
  rintro ds vs G1 H1 ⟨d, rfl, hsz, sf, hN⟩ g1 g2 g3 rds
  obtain ⟨v, rfl, rd⟩ := rds1 rds
  refine ⟨a, xs, v, rfl, rfl, g3 _ _ hw, by rw [hrd.len]; exact hsz, ?_⟩
  have lm : Same G (minus G1 (Owned ρ σ)) := le_minus (same_t (le_plus ab.free) g1.1) ab.free
  obtain ⟨ab', g'⟩ := ab.wrB (i := i) (l' := l ++ [d]) (ys := xs ++ [v]) g1 g2 g3 hl s1 ((hrd.same lm).app (RDs.cons (safe_owned ab g2 g3 sf rd) RDs.nil))
  exact hn _ σ _ _ hN ab' g'
theorem isI_some {d : D} {Kk : Int -> Prop} (h : isI d Kk) : ∃ k, d = .int k /\ Kk k := by
 cases d with
 | int k => exact ⟨k, rfl, h⟩
 | _ => exact h.elim
theorem PS.nox {st : Stmt} {t : TS} (h : PS X.nox st t) : PS X st t := fun pins s σ H D I hw =>
 wpAny_mono (h pins s σ H D (I.wish _) hw) (fun _ _ q => q.unwish) fun _ _ z => False.elim z
theorem qz_calm (h : QZ X.nox E0 st t) : QZ X E st (.calm t) := by
 have h' : QS X st (ts X.K X.mg E0 t) := ⟨PS.nox h.p⟩
 exact QS.imp h' fun De σ H ⟨H0, G0, G, ρ, N0, R0, X0, ab, hr, hn, hR, hx⟩ => ⟨H0, G0, G, ρ, N0, R0, fun _ => False, ab, hr, hn, hR, Kx.no⟩
end
section
variable {P : Program} {w : World} {K : PySem.W.Frag} {mg : Str -> Option Value} {base : Heap} {N : List Str} {qual : Str} {f : Addr}
theorem start_ab {G H : Hp} {ds : List D} {vs : List V} {np nn : Nat} (hs : Same G H) (r : RDs K mg G ds vs) (hl : ds.length = np) (hN : N.length = nn) : AbS K mg H G G (ds.map B.s ++ List.replicate (nn - np) .n) (L2.start N vs) H := by
 have hn : ∀ (i : Nat) (b : B), (ds.map B.s ++ List.replicate (nn - np) .n)[i]? = some b -> (∃ d, b = .s d /\ ds[i]? = some d) \/ b = .n := fun i b e => by
  by_cases hi : i < ds.length
  ·rw [List.getElem?_append_left (by simpa using hi), List.getElem?_map] at e
   rw [List.getElem?_eq_getElem hi] at e ⊢
   cases e
   exact .inl ⟨_, rfl, rfl⟩
  ·rw [List.getElem?_append_right (by simpa using hi)] at e
   have := List.getElem?_eq_some_iff.mp e
   obtain ⟨h1, h2⟩ := this
   simp at h2
   exact .inr h2.symm
 refine ⟨?_, Same.refl', Same.refl', hs, fun a o e => .inl ⟨o, e⟩, fun i d e => ?_, fun i d e => ?_, fun i j d d' a _ e => ?_⟩
 ·unfold L2.start
  rw [List.length_append, List.length_append, List.length_map, List.length_map, List.length_replicate, List.length_replicate, r.len, hl, hN]
 ·rcases hn i _ e with ⟨d', e1, e2⟩ | e1
  ·cases e1
   obtain ⟨v, h1, h2⟩ := r.get e2
   refine ⟨v, ?_, h2⟩
   unfold L2.start
   have hi : i < vs.length := (List.getElem?_eq_some_iff.mp h1).1
   rw [List.getElem?_append_left (by simpa using hi), List.getElem?_map, h1]
   rfl
  ·cases e1
 ·rcases hn i _ e with ⟨d', e1, e2⟩ | e1 <;> cases e1
 ·rcases hn i _ e with ⟨d', e1, e2⟩ | e1 <;> cases e1
theorem fnN {x : Str} {st : Stmt} {fd : FuncData} {ps : List Str} {k np nn : Nat} {b : Sm} (F : Fun K x qual st f fd) (S : FnScope N ps (defScope st)) (hp : ps.length = np) (hN : N.length = nn)
  (hb : ∀ (cdv : Value) (A : Around) (outer : List PySem.Env) (s : Shared) (H : Hp) (E : XK), Room k (A.deeper (envOfC qual (defScope st) s.heap.objs.size f cdv)) -> QZs ((cxOf (CXe P w) P w K mg base N qual (defScope st) f cdv A outer s H E).wish fun _ _ => False) E0 (defBody st) b) :
  FnOk P w K mg base (CXe P w) (k + 1) f fd ps (spP K mg (Fn.mkN np nn b)) := by
 refine F.okN S (fun vs H Q E ⟨G, ds, Q0, X0, hs, rds, ⟨hl, hr⟩, hk, hx⟩ => by rw [rds.len, hl, hp]) fun cdv A outer s H vs Q E hroom ⟨G, ds, Q0, X0, hs, rds, ⟨hl, hr⟩, hk, hx⟩ => ⟨_, hb cdv A outer s H E hroom, ?_⟩
 refine ⟨H, G, G, _, fun _ => Q0 .non, Q0, fun _ => False, start_ab hs rds hl hN, hr, fun ρ' σ' H' G' q ab _ => ?_, hk, Kx.no⟩
 exact hk .non .non G' H' q ⟨ab.g0, ab.nw⟩ ab.g ab.s0 (by rw [RD])
theorem fnE {x : Str} {st : Stmt} {fd : FuncData} {ps : List Str} {k np nn : Nat} {b : Sm} (F : Fun K x qual st f fd) (S : FnScope N ps (defScope st)) (hp : ps.length = np) (hN : N.length = nn)
  (hb : ∀ (cdv : Value) (A : Around) (outer : List PySem.Env) (s : Shared) (H : Hp) (E : XK), Room k (A.deeper (envOfC qual (defScope st) s.heap.objs.size f cdv)) -> QZs ((cxOf (CXe P w) P w K mg base N qual (defScope st) f cdv A outer s H E).wish (cxOf (CXe P w) P w K mg base N qual (defScope st) f cdv A outer s H E).xe) E (defBody st) b) :
  FnOk P w K mg base (CXe P w) (k + 1) f fd ps (spP K mg (Fn.mk' np nn b)) := by
 refine F.okE S (fun vs H Q E ⟨G, ds, Q0, X0, hs, rds, ⟨hl, hr⟩, hk, hx⟩ => by rw [rds.len, hl, hp]) fun cdv A outer s H vs Q E hroom ⟨G, ds, Q0, X0, hs, rds, ⟨hl, hr⟩, hk, hx⟩ => ⟨_, hb cdv A outer s H E hroom, ?_⟩
 refine ⟨H, G, G, _, fun _ => Q0 .non, Q0, X0, start_ab hs rds hl hN, hr, fun ρ' σ' H' G' q ab _ => ?_, hk, hx⟩
 exact hk .non .non G' H' q ⟨ab.g0, ab.nw⟩ ab.g ab.s0 (by rw [RD])
theorem qz_raise {cdv : Value} {sc : Scope} {A : Around} {outer : List PySem.Env} {s : Shared} {H : Hp} {E : XK} {x : Str} {C : Addr} {m : Str} {np cpos pos p2 : Pos} {j} (T : Exc K mg x C) (hg : Gl ((cxOf (CXe P w) P w K mg base N qual sc f cdv A outer s H E).wish (cxOf (CXe P w) P w K mg base N qual sc f cdv A outer s H E).xe) x) (hdb : (x == ("__debug__" : Str)) = false := by decide) :
  QZ ((cxOf (CXe P w) P w K mg base N qual sc f cdv A outer s H E).wish (cxOf (CXe P w) P w K mg base N qual sc f cdv A outer s H E).xe) E (.Raise (some (.Call (.Name x np) [.Constant (.str m) j p2] [] cpos)) none pos) (.raise x) :=
 QS.imp (qs_raise T hg hdb) fun De σ H ⟨H0, G0, G, ρ, N0, R0, X0, ab, hr, hn, hR, hx⟩ => hx x C H hr T.nm ab.s0
end
end Pu
set_option Elab.async false
set_option linter.all false
set_option maxRecDepth 100000
set_option maxHeartbeats 4000000
namespace Pu
open PySem PySem.Spec PyProof.Rows L2
def Tg.slots : Tg -> List Nat
 | .nm i => [i]
 | .tp is => is
section
variable {K : PySem.W.Frag} {mg : Str -> Option Value} {G G1 H H1 : Hp} {ρ : Pu.Env} {σ : L2.St}
theorem AbE.put {i : Nat} {d : D} {v : V} (h : AbE K mg G ρ σ) (hi : i < σ.length) (r : RD K mg G d v) : AbE K mg G (ρ.set i (.s d)) (σ.set i (some v)) := fun j e q => by
 rw [Env.get_eq] at q
 by_cases hj : j = i
 ·subst hj
  cases z : (ρ.set j (.s d))[j]? with
  | none => rw [z] at q; cases q
  | some b =>
   have hl : j < ρ.length := by
    have := (List.getElem?_eq_some_iff.mp z).1
    simpa using this
   rw [List.getElem?_set_self hl] at q
   cases q
   exact ⟨v, by rw [List.getElem?_set_self hi], r⟩
 ·rw [List.getElem?_set_ne (Ne.symm hj), <- Env.get_eq] at q
  obtain ⟨w, h1, h2⟩ := h j e q
  exact ⟨w, by rw [List.getElem?_set_ne (Ne.symm hj)]; exact h1, h2⟩
theorem AbE.keep {i : Nat} {v : V} (h : AbE K mg G ρ σ) (hn : ρ.get i = none) : AbE K mg G ρ (σ.set i (some v)) := fun j e q => by
 have hj : j ≠ i := fun z => by rw [z, hn] at q; cases q
 obtain ⟨w, h1, h2⟩ := h j e q
 exact ⟨w, by rw [List.getElem?_set_ne (Ne.symm hj)]; exact h1, h2⟩
theorem AbE.putAll {base : Pu.Env} : ∀ (is : List Nat) (ds : List D) (vs : List V) {ρ : Pu.Env} {σ : L2.St}, is.length = ds.length -> RDs K mg G ds vs -> (∀ i ∈ is, i < σ.length) -> (∀ i ∈ is, base.get i = none) -> AbE K mg G ρ σ -> AbE K mg G base σ ->
  AbE K mg G (setAll is ds ρ) ((is.zip vs).foldl (fun σ p => σ.set p.1 (some p.2)) σ) /\ AbE K mg G base ((is.zip vs).foldl (fun σ p => σ.set p.1 (some p.2)) σ) /\ ((is.zip vs).foldl (fun σ p => σ.set p.1 (some p.2)) σ).length = σ.length
 | [], [], vs, ρ, σ, _, h, _, _, ab, bb => by rw [RDs] at h; subst h; exact ⟨ab, bb, rfl⟩
 | [], _ :: _, _, _, _, h, _, _, _, _, _ => by simp at h
 | _ :: _, [], _, _, _, h, _, _, _, _, _ => by simp at h
 | i :: is, d :: ds, vs, ρ, σ, h, r, hl, hn, ab, bb => by
  rw [RDs] at r
  obtain ⟨v, vs', rfl, h1, h2⟩ := r
  obtain ⟨a1, a2, a3⟩ := AbE.putAll (base := base) is ds vs' (ρ := ρ.set i (.s d)) (σ := σ.set i (some v)) (by simpa using h) h2 (fun j hj => by rw [List.length_set]; exact hl j (List.mem_cons_of_mem _ hj)) (fun j hj => hn j (List.mem_cons_of_mem _ hj)) (ab.put (hl i List.mem_cons_self) h1) (bb.keep (hn i List.mem_cons_self))
  exact ⟨a1, a2, by rw [List.zip_cons_cons, List.foldl_cons, a3, List.length_set]⟩
theorem tgt_putE {tg : Tg} {d : D} {v : V} {N0 : Pu.Env -> Prop} {N : L2.St -> Hp -> Prop} (ab : AbE K mg G ρ σ) (g : Same G H) (rd : RD K mg G d v) (hl : ∀ i ∈ tg.slots, i < σ.length) (hf : ∀ i ∈ tg.slots, ρ.get i = none) (hp : tg.put d ρ N0)
  (hn : ∀ ρ' σ', N0 ρ' -> AbE K mg G ρ' σ' -> AbE K mg G ρ σ' -> σ'.length = σ.length -> N σ' H) : tgt K tg v σ H N := by
 cases tg with
 | nm i =>
  have h1 := hl i (by simp [Tg.slots])
  have h2 := hf i (by simp [Tg.slots])
  exact hn _ _ hp (ab.put h1 rd) (ab.keep h2) (by simp)
 | tp is =>
  cases d with
  | tup ds =>
   obtain ⟨hle, hp⟩ := hp
   rw [RD] at rd
   obtain ⟨a, xs, rfl, h1, h2⟩ := rd
   obtain ⟨a1, a2, a3⟩ := AbE.putAll (base := ρ) is ds xs (ρ := ρ) (σ := σ) hle h2 hl hf ab ab
   exact ⟨a, xs, rfl, same_T g h1, by rw [h2.len, hle], gcons_put (K := K) is xs σ H N (by rw [h2.len, hle]) (hn _ _ hp a1 a2 a3)⟩
  | _ => exact hp.elim
theorem compEnv_ab {nt : Nat} {js : List Nat} (h : AbE K mg G ρ σ) : AbE K mg G (compEnv nt js ρ) (List.replicate nt none ++ js.map fun j => (σ[j]?).getD none) := fun i d e => by
 rw [Env.get_eq] at e
 unfold compEnv at e
 by_cases hi : i < nt
 ·rw [List.getElem?_append_left (by simpa using hi), List.getElem?_replicate, if_pos hi] at e
  cases e
 ·rw [List.getElem?_append_right (by simpa using hi), List.length_replicate, List.getElem?_map] at e
  rw [List.getElem?_append_right (by simpa using hi), List.length_replicate, List.getElem?_map]
  cases q : js[i - nt]? with
  | none => rw [q] at e; cases e
  | some j =>
   rw [q] at e
   have e' : ((ρ[j]?).getD .n).get = some d := e
   have e2 : ρ.get j = some d := by
    rw [Env.get_eq]
    cases z : ρ[j]? with
    | none => rw [z] at e'; cases e'
    | some b => rw [z] at e'; exact e'
   obtain ⟨v, h1, h2⟩ := h j d e2
   refine ⟨v, ?_, h2⟩
   show some ((σ[j]?).getD none) = some (some v)
   rw [h1]; rfl
theorem compEnv_free {nt : Nat} {js : List Nat} {i : Nat} (hi : i < nt) : (compEnv nt js ρ).get i = none := by
 rw [Env.get_eq]
 unfold compEnv
 rw [List.getElem?_append_left (by simpa using hi), List.getElem?_replicate, if_pos hi]
 rfl
def TcOk (K : PySem.W.Frag) (mg : Str -> Option Value) (c : Option Ex) (tc : TT) : Prop := match c with
 | none => tc = tTrue
 | some c => tc = tt K mg E0 c
theorem lc_turns {nt : Nat} {js : List Nat} {tg : Tg} {c : Option Ex} {elt : Ex} {l : List D} {J : It} {tc : TT} {Q0 : List D -> Prop} {Q : VK} (hts : ∀ i ∈ tg.slots, i < nt) (ab : AbE K mg G ρ σ) (g : Same G H) (hw : Walk K mg G l J) (hsz : l.length < sizeLine)
  (hr : compL (compF tg c elt (compEnv nt js ρ)) l Q0)
  (htc : TcOk K mg c tc)
  (hk : ∀ rs ys p G2 H2, Q0 rs -> Gr G H G2 -> Same G2 H2 -> Same H H2 -> RDs K mg G2 rs ys -> H2 p = none -> Q (.ref p) (upd H2 p (.lst ys))) :
  LcG J (tgt K tg) tc (tx K mg E0 elt) Q (List.replicate nt none ++ js.map fun j => (σ[j]?).getD none) H := by
 refine ⟨fun i m ys σ' H' => m = l.length - i /\ i <= l.length /\ ys.length <= i /\ σ'.length = nt + js.length /\ ∃ G' rs, Gr G H G' /\ Same G' H' /\ Same H H' /\ RDs K mg G' rs ys /\ AbE K mg G' (compEnv nt js ρ) σ' /\ compL (compF tg c elt (compEnv nt js ρ)) (l.drop i) fun r => Q0 (rs ++ r),
  ⟨l.length, by simp, Nat.zero_le _, by simp, by simp, G, [], Gr.refl, g, Same.refl', RDs.nil, compEnv_ab ab, by simpa using hr⟩, ?_⟩
 rintro i m ys σ1 H1 ⟨rfl, hi, hyl, hsl, G1, rs, g1, g2, g3, rds, ab1, h1⟩
 refine ⟨by omega, ?_⟩
 obtain ⟨w1, w2⟩ := hw i G1 H1 g1.1 g2
 by_cases hlt : i < l.length
 ·have e : l[i]? = some l[i] := by simp [hlt]
  obtain ⟨go, yl⟩ := w1 _ e
  rw [List.drop_eq_getElem_cons hlt] at h1
  have h1' : compF tg c elt (compEnv nt js ρ) l[i] (fun o => compL (compF tg c elt (compEnv nt js ρ)) (l.drop (i + 1)) fun r => Q0 (rs ++ (o.toList ++ r))) := h1
  unfold compF at h1'
  refine .inr ⟨go, fun v H2 y => ?_⟩
  obtain ⟨s2, G2, k1, k2, rd⟩ := yl v H2 y
  refine tgt_putE (ab1.same k1.1) k2 rd (fun j hj => by rw [hsl]; have := hts j hj; omega) (fun j hj => compEnv_free (hts j hj)) h1' fun ρ3 σ3 hb ab3 bb3 hl3 => ?_
  have el : ∀ {G3 H3 : Hp}, Gr G2 H2 G3 -> Same G3 H3 -> Same H2 H3 -> (elt.run ρ3 (fun d => compL (compF tg c elt (compEnv nt js ρ)) (l.drop (i + 1)) fun r => Q0 (rs ++ ((some d : Option D).toList ++ r))) fun _ => False) ->
    tx K mg E0 elt σ3 H3 fun y H4 => ∃ m', m' < l.length - i /\ m' = l.length - (i + 1) /\ i + 1 <= l.length /\ (ys ++ [y]).length <= i + 1 /\ σ3.length = nt + js.length /\ ∃ G' rs', Gr G H G' /\ Same G' H4 /\ Same H H4 /\ RDs K mg G' rs' (ys ++ [y]) /\ AbE K mg G' (compEnv nt js ρ) σ3 /\ compL (compF tg c elt (compEnv nt js ρ)) (l.drop (i + 1)) fun r => Q0 (rs' ++ r) := fun {G3 H3} k3 k4 k5 he => by
   refine ⟨G3, ρ3, _, fun _ => False, k4, ab3.same k3.1, he, fun d v' G4 H4 q n1 n2 n3 rd' => ?_, Kx.no⟩
   refine ⟨l.length - (i + 1), by omega, rfl, hlt, by simp; omega, by rw [hl3, hsl], G4, rs ++ [d], g1.trans g3 (k1.trans s2 (k3.trans k5 n1)), n2, same_t g3 (same_t s2 (same_t k5 n3)), ((rds.same (same_t k1.1 (same_t k3.1 n1.1))).app (RDs.cons rd' RDs.nil)), bb3.same (same_t k3.1 n1.1), ?_⟩
   refine compL_mono compF_mono _ _ _ (fun r q => ?_) q
   simpa using q
  cases c with
  | none =>
   have : tc = tTrue := htc
   subst this
   unfold tTrue; dsimp only
   rw [if_pos rfl]
   exact el Gr.refl k2 Same.refl' hb
  | some c =>
   have : tc = tt K mg E0 c := htc
   subst this
   refine ⟨G2, ρ3, _, fun _ => False, k2, ab3, hb, fun d G3 H3 q k3 k4 k5 => ?_, Kx.no⟩
   obtain ⟨b, rfl, q1, q2⟩ := tst_bl q
   refine ⟨b, rfl, ?_⟩
   cases b with
   | true => exact iteT (el k3 k4 k5 (q1 rfl))
   | false =>
    refine iteF ⟨l.length - (i + 1), by omega, rfl, hlt, by omega, by rw [hl3, hsl], G3, rs, g1.trans g3 (k1.trans s2 k3), k4, same_t g3 (same_t s2 k5), rds.same (same_t k1.1 k3.1), bb3.same k3.1, ?_⟩
    refine compL_mono compF_mono _ _ _ (fun r q => ?_) (q2 rfl)
    simpa using q
 ·have e : i = l.length := by omega
  subst e
  rw [List.drop_length] at h1
  refine .inl ⟨w2 (Nat.le_refl _), fun p hp => hk rs ys p G1 H1 ?_ g1 g2 g3 rds hp⟩
  have h1' : Q0 (rs ++ []) := h1
  simpa using h1'
theorem tf_comp {E : XK} {nt : Nat} {js : List Nat} {tg : Tg} {src : Ex} {c : Option Ex} {elt : Ex} {tc : TT} {Q : VK} (hts : ∀ i ∈ tg.slots, i < nt) (htc : TcOk K mg c tc) (h : tf K mg E (.comp nt js tg src c elt) σ H Q) : tLcG (ti K mg E src) (tgt K tg) tc (tx K mg E0 elt) nt js σ H Q := by
 obtain ⟨G, ρ, Q0, X0, hs, ab, hr, hk, hx⟩ := h
 refine ⟨G, ρ, _, X0, hs, ab, hr, fun d q => (onL_some q).imp fun _ z => z.1, fun d G1 H1 q g1 g2 g3 l J el hw => ?_, hx⟩
 have q' : onL (items d) fun l => l.length < sizeLine /\ compL (compF tg c elt (compEnv nt js ρ)) l fun r => Q0 (.lst r) := q
 rw [el] at q'
 refine lc_turns hts (ab.same g1.1) g2 hw q'.1 q'.2 htc fun rs ys p G2 H2 hq k1 k2 k3 rds hp => ?_
 have hn : ∀ {A : Hp}, Same A H2 -> A p = none := fun s => new_none s hp
 refine hk (.lst rs) p G2 (upd H2 p (.lst ys)) hq (g1.trans g3 k1) (same_t k2 (same_new hp _)) (same_t g3 (same_t k3 (same_new hp _))) (hn (same_t g3 k3)) (hn k2) ⟨ys, upd_same, rds⟩
end
section
variable {X : Cx} {E : XK} {elt iter target : Expr} {ct : Option Expr} {pos spos py : Pos} {scope : Scope} {N' : List Str} {nt : Nat} {js : List Nat} {tg : Tg} {src x : Ex} {c : Option Ex} {y : Str} {iy : Nat}
def CtOk (X : Cx) (scope : Scope) (N' : List Str) (ct : Option Expr) (c : Option Ex) : Prop := match ct, c with
 | none, none => True
 | some e, some x => ∀ (C : Addr) (s : Shared) (H : Hp) (fp : List Addr), QXT (X.compG scope N' C s H fp) E0 e x
 | _, _ => False
def CtQ (X : Cx) (scope : Scope) (N' : List Str) (ct : Option Expr) (tc : TT) : Prop := match ct with
      | none => tc = tTrue
      | some c => ∀ (C : Addr) (s : Shared) (H : Hp) (fp : List Addr), QT (X.compG scope N' C s H fp) c tc
theorem ct_split (h : CtOk X scope N' ct c) : ∃ tc : TT, CtQ X scope N' ct tc /\ TcOk X.K X.mg c tc := by
 cases ct with
 | none =>
  cases c with
  | none => exact ⟨tTrue, rfl, rfl⟩
  | some c => exact h.elim
 | some e =>
  cases c with
  | none => exact h.elim
  | some c => exact ⟨tt X.K X.mg E0 c, h, rfl⟩
theorem qf_comp (hc : X.calm = true) (hi : QXI X E target iter src) (hk : scope.kind = .function) (cp : CapOk X N' nt js scope) (hts : tg.slots.all (· < nt) = true)
  (hg : ∀ (C : Addr) (s : Shared) (H : Hp) (fp : List Addr), QG (X.compG scope N' C s H fp) target (tgt X.K tg)) (ht : CtOk X scope N' ct c)
  (he : ∀ (C : Addr) (s : Shared) (H : Hp) (fp : List Addr), QX (X.compG scope N' C s H fp) E0 elt x) (hs : ∀ x, foldedSetIterable iter X.env x = pure x := by intro _; rfl) : QF X E (.ListComp elt [⟨target, iter, ct.toList, 0⟩] scope pos) (.comp nt js tg src c x) := by
 obtain ⟨tc, h1, h2⟩ := ct_split ht
 exact QE.imp (qe_lcG hc hi hk cp hg h1 he hs) fun σ H Q h => tf_comp (fun i hi => of_decide_eq_true (List.all_eq_true.mp hts i hi)) h2 h
theorem qs_comp (hN : X.N.Nodup) (hiy : X.N[iy]? = some y) (hly : X.env.scope.names.lookup y = some .local) (hc : X.calm = true) (hi : QXI X E target iter src) (hk : scope.kind = .function) (cp : CapOk X N' nt js scope) (hts : tg.slots.all (· < nt) = true)
  (hg : ∀ (C : Addr) (s : Shared) (H : Hp) (fp : List Addr), QG (X.compG scope N' C s H fp) target (tgt X.K tg)) (ht : CtOk X scope N' ct c)
  (he : ∀ (C : Addr) (s : Shared) (H : Hp) (fp : List Addr), QX (X.compG scope N' C s H fp) E0 elt x) (hsw : swapsWith (.ListComp elt [⟨target, iter, ct.toList, 0⟩] scope pos) (some (.Name y py)) spos.line X.env = pure true := by rfl) (hs : ∀ x, foldedSetIterable iter X.env x = pure x := by intro _; rfl) :
  QS X (.Assign [.Name y py] (.ListComp elt [⟨target, iter, ct.toList, 0⟩] scope pos) spos) (tAsg (tf X.K X.mg E (.comp nt js tg src c x)) (gName iy)) := by
 obtain ⟨tc, h1, h2⟩ := ct_split ht
 exact QS.imp (qs_lcG hN hiy hly hc hi hk cp hg h1 he hsw hs) fun D σ H h => tf_comp (fun i hi => of_decide_eq_true (List.all_eq_true.mp hts i hi)) h2 h
theorem qg_nmx {i : Nat} {z : Str} {pos : Pos} (hN : X.N.Nodup) (hi : X.N[i]? = some z) (hx : X.env.scope.names.lookup z = some .local) : QG X (.Name z pos) (tgt X.K (.nm i)) := qg_nm hN hi hx
def pTup : Fn := ⟨fun ds Q _ => ds.length <= sizeLine /\ Q (.tup ds), fun ds Q Q' X X' m _ q => ⟨q.1, m _ q.2⟩⟩
def pLst : Fn := ⟨fun ds Q _ => ds.length <= sizeLine /\ Q (.lst ds), fun ds Q Q' X X' m _ q => ⟨q.1, m _ q.2⟩⟩
theorem qx_tup {es : List Expr} {xs : List Ex} {x1} (h : QXA X E es xs) : QX X E (.Tuple es x1 pos) (.op pTup xs) := QE.imp (⟨pe_tup h.p⟩ : QE X (.Tuple es x1 pos) _) fun σ H Q ⟨G, ρ, Q0, X0, hs, ab, hr, hk, hx⟩ => by
 refine ⟨G, ρ, _, X0, hs, ab, hr, fun ds vs G1 H1 q g1 g2 g3 rds => ⟨by rw [rds.len]; exact q.1, fun p hp => ?_⟩, hx⟩
 refine (hk.same g1 g3).new g2 hp q.2 ?_
 rw [RD]
 exact ⟨p, vs, rfl, SqT.of upd_same, rds.same (same_new (new_none g2 hp) _)⟩
theorem qf_lst {es : List Expr} {xs : List Ex} (h : QXA X E es xs) : QF X E (.List es pos) (.op pLst xs) := QE.imp (qe_lst h) fun σ H Q ⟨G, ρ, Q0, X0, hs, ab, hr, hk, hx⟩ => by
 refine ⟨G, ρ, _, X0, hs, ab, hr, fun ds vs G1 H1 q g1 g2 g3 rds => ⟨by rw [rds.len]; exact q.1, fun p hp => ?_⟩, hx⟩
 exact hk (.lst ds) p G1 (upd H1 p (.lst vs)) q.2 g1 (same_t g2 (same_new hp _)) (same_t g3 (same_new hp _)) (new_none g3 hp) (new_none g2 hp) ⟨vs, upd_same, rds⟩
end
end Pu
set_option Elab.async false
set_option linter.all false
set_option maxRecDepth 100000
set_option maxHeartbeats 4000000
namespace Pu
open PySem PySem.Spec PyProof.Rows L2
def fn2 (g : D -> D -> DK -> Prop) (m : ∀ a b (Q Q' : DK), (∀ d, Q d -> Q' d) -> g a b Q -> g a b Q') : Fn := ⟨fun ds Q _ => match ds with
 | [a, b] => g a b Q
 | _ => False, fun ds Q Q' X X' mm _ q => by
 match ds, q with
 | [a, b], q => exact m a b Q Q' mm q
 | [], q => exact q.elim
 | [_], q => exact q.elim
 | _ :: _ :: _ :: _, q => exact q.elim⟩
def fn1 (g : D -> DK -> Prop) (m : ∀ a (Q Q' : DK), (∀ d, Q d -> Q' d) -> g a Q -> g a Q') : Fn := ⟨fun ds Q _ => match ds with
 | [a] => g a Q
 | _ => False, fun ds Q Q' X X' mm _ q => by
 match ds, q with
 | [a], q => exact m a Q Q' mm q
 | [], q => exact q.elim
 | _ :: _ :: _, q => exact q.elim⟩
theorem onV_mono {o : Option D} {Q Q' : DK} (m : ∀ d, Q d -> Q' d) (h : onV o Q) : onV o Q' := by
 cases o with
 | none => exact h
 | some d => exact m _ h
theorem onV_some {o : Option D} {Q : DK} (h : onV o Q) : ∃ d, o = some d /\ Q d := by
 cases o with
 | none => exact h.elim
 | some d => exact ⟨d, rfl, h⟩
def gAdd (a b : D) (Q : DK) : Prop := match a, b with
 | .int i, .int j => Q (.int (i + j))
 | .str x, .str y => x.length + y.length <= sizeLine /\ Q (.str (x ++ y))
 | .lst l, .lst m => l.length + m.length <= sizeLine /\ Q (.lst (l ++ m))
 | .tup l, .tup m => l.length + m.length <= sizeLine /\ Q (.tup (l ++ m))
 | _, _ => False
theorem gAdd_mono (a b : D) (Q Q' : DK) (m : ∀ d, Q d -> Q' d) (h : gAdd a b Q) : gAdd a b Q' := by
 unfold gAdd at h ⊢
 split at h
 ·exact m _ h
 ·exact ⟨h.1, m _ h.2⟩
 ·exact ⟨h.1, m _ h.2⟩
 ·exact ⟨h.1, m _ h.2⟩
 ·exact h.elim
def pAdd : Fn := fn2 gAdd gAdd_mono
def gI (g : Int -> Int -> DK -> Prop) (a b : D) (Q : DK) : Prop := match a, b with
 | .int i, .int j => g i j Q
 | _, _ => False
theorem gI_mono {g : Int -> Int -> DK -> Prop} (hg : ∀ i j (Q Q' : DK), (∀ d, Q d -> Q' d) -> g i j Q -> g i j Q') (a b : D) (Q Q' : DK) (m : ∀ d, Q d -> Q' d) (h : gI g a b Q) : gI g a b Q' := by
 unfold gI at h ⊢
 split at h
 ·exact hg _ _ _ _ m h
 ·exact h.elim
def fnI (g : Int -> Int -> DK -> Prop) (hg : ∀ i j (Q Q' : DK), (∀ d, Q d -> Q' d) -> g i j Q -> g i j Q') : Fn := fn2 (gI g) (gI_mono hg)
def pSub : Fn := fnI (fun i j Q => Q (.int (i - j))) fun _ _ _ _ m h => m _ h
def pFdiv : Fn := fnI (fun i j Q => CDivB i j /\ Q (.int (i.fdiv j))) fun _ _ _ _ m h => ⟨h.1, m _ h.2⟩
def pMod : Fn := fnI (fun i j Q => j ≠ 0 /\ Q (.int (i.fmod j))) fun _ _ _ _ m h => ⟨h.1, m _ h.2⟩
def pPow : Fn := fnI (fun i j Q => CPow i j /\ Q (.int (i ^ j.toNat))) fun _ _ _ _ m h => ⟨h.1, m _ h.2⟩
def gNeg (a : D) (Q : DK) : Prop := match a with
 | .int i => Q (.int (-i))
 | _ => False
def pNeg : Fn := fn1 gNeg fun a Q Q' m h => by
 unfold gNeg at h ⊢
 split at h
 ·exact m _ h
 ·exact h.elim
section
variable {X : Cx} {K : PySem.W.Frag} {mg : Str -> Option Value}
def r2 (K : PySem.W.Frag) (mg : Str -> Option Value) (F : Fn) : R2 := fun v1 v2 H Q => ∃ G d1 d2 Q0 X0, Same G H /\ RD K mg G d1 v1 /\ RD K mg G d2 v2 /\ F.run [d1, d2] Q0 X0 /\ Kt K mg G H Q0 Q
def r1 (K : PySem.W.Frag) (mg : Str -> Option Value) (F : Fn) : V -> Hp -> VK -> Prop := fun v H Q => ∃ G d Q0 X0, Same G H /\ RD K mg G d v /\ F.run [d] Q0 X0 /\ Kt K mg G H Q0 Q
def rN (K : PySem.W.Frag) (mg : Str -> Option Value) (F : Fn) : List V -> Hp -> VK -> Prop := fun vs H Q => ∃ G ds Q0 X0, Same G H /\ RDs K mg G ds vs /\ F.run ds Q0 X0 /\ Kt K mg G H Q0 Q
theorem lk2 {F : Fn} : Lk2 K mg F (r2 K mg F) := fun G H d1 d2 v1 v2 Q0 X0 Q a b c d e => ⟨G, d1, d2, Q0, X0, a, b, c, d, e⟩
theorem lk1 {F : Fn} : Lk1 K mg F (r1 K mg F) := fun G H d v Q0 X0 Q a b c d => ⟨G, _, Q0, X0, a, b, c, d⟩
theorem lkN {F : Fn} : LkN K mg F (rN K mg F) := fun G H d v Q0 X0 Q a b c d => ⟨G, _, Q0, X0, a, b, c, d⟩
theorem cat_tup0 {prog : Program} {w : World} {A : Around} {E : Value -> Shared -> Prop} {s : Shared} {t b : Addr} {ws : List Value} {Q : Value -> Shared -> Prop} (ht : IsTup s.heap t ([] : List Value).toArray) (hb : IsTup s.heap b ws.toArray) (h : Q (.ref b) s) : wpAny (model prog w) A (binaryOp .Add (.ref t) (.ref b)) Q E s := by
 obtain ⟨⟨cls, dd, data, sl⟩, ho, hc, n, hd⟩ := id ht
 obtain ⟨⟨cls2, dd2, data2, sl2⟩, ho2, hc2, n2, hd2⟩ := id hb
 simp only at hc hd hc2 hd2
 subst hc hd hc2 hd2
 exact concat_meets ⟨_, ho, rfl⟩ ⟨_, ho2, rfl⟩ noFill_tuple_add seq_tuple_add PySem.F.slot_tuple_add PySem.F.entry_tuple_add (PySem.F.args_tuple_add_2 _ _)
   (tuple_addW0 t b _ ws.toArray n n2 dd dd2 sl sl2 (by simp)) ⟨ho, ho2, h⟩
theorem op_catT0 : OpR X (binaryOp .Add) (fun x y H Q => ∃ a b ys, x = .ref a /\ y = .ref b /\ SqT X.K H a [] /\ SqT X.K H b ys /\ Q (.ref b) H) := by
 intro pins s σ H x y v u Q I rx ry h
 obtain ⟨a, b, ys, rfl, rfl, ha, hb, q⟩ := h
 cases rx
 cases ry
 obtain ⟨its, r1, p1, _⟩ := I.tuple ha
 obtain ⟨its2, r2, p2, _⟩ := I.tuple hb
 cases r1
 exact cat_tup0 p1 p2 ⟨.ref b, H, I, rfl, q⟩
def rCatN (K : PySem.W.Frag) : R2 := fun x y H Q => ∃ l b xs zs, x = .ref l /\ y = .ref b /\ SqL K H l xs /\ SqL K H b zs /\ xs.length + zs.length <= sizeLine /\ ∀ p, H p = none -> Q (.ref p) (upd H p (.lst (xs ++ zs)))
theorem op_catN : OpR X (binaryOp .Add) (rCatN X.K) := by
 intro pins s σ H x y v u Q I rx ry h
 obtain ⟨l, b, xs, zs, rfl, rfl, hH, hB, hz, q⟩ := h
 cases rx
 cases ry
 obtain ⟨its, r, ⟨⟨cls, dd, data, sl⟩, n, e, hc, _, hd⟩, z1⟩ := I.list hH
 obtain ⟨its2, r2, ⟨⟨cls2, dd2, data2, sl2⟩, n2, e2, hc2, _, hd2⟩, z2⟩ := I.list hB
 dsimp only at hc hd hc2 hd2
 subst hc hd hc2 hd2
 have l1 := r.length
 have l2 := r2.length
 have ea : its.toArray ++ its2.toArray = (its ++ its2).toArray := by simp
 refine concat_meets ⟨_, e, rfl⟩ ⟨_, e2, rfl⟩ noFill_list_add seq_list_add PySem.F.slot_list_add PySem.F.entry_list_add (PySem.F.args_list_add_2 _ _) (list_addW l b its.toArray its2.toArray n n2 dd dd2 sl sl2 (by simp only [List.size_toArray]; omega)) ⟨e, e2, ?_⟩
 rw [ea]
 exact ⟨.ref _, _, I.lnew (t' := s.toks) (r.append r2) (by rw [List.length_append]; omega), rfl, q _ I.fresh⟩
theorem rd_tup {G : Hp} {l : List D} {v : V} (h : RD K mg G (.tup l) v) : ∃ a xs, v = .ref a /\ SqT K G a xs /\ RDs K mg G l xs := by rw [RD] at h; exact h
theorem rd_lst {G : Hp} {l : List D} {v : V} (h : RD K mg G (.lst l) v) : ∃ a xs, v = .ref a /\ SqL K G a xs /\ RDs K mg G l xs := by rw [RD] at h; exact h
theorem rd_str {G : Hp} {x : Str} {v : V} (h : RD K mg G (.str x) v) : v = .str x := by rw [RD] at h; exact h
theorem rd_bl {G : Hp} {x : Bool} {v : V} (h : RD K mg G (.bl x) v) : v = .bl x := by rw [RD] at h; exact h
theorem rd_non {G : Hp} {v : V} (h : RD K mg G .non v) : v = .non := by rw [RD] at h; exact h
theorem RD.newT {G H : Hp} {p : Addr} {l : List D} {xs : List V} (r : RDs K mg G l xs) (g : Same G H) (hp : H p = none) : RD K mg (upd G p (.tup xs)) (.tup l) (.ref p) := by
 rw [RD]
 exact ⟨p, xs, rfl, SqT.of upd_same, r.same (same_new (new_none g hp) _)⟩
theorem RD.newL {G H : Hp} {p : Addr} {l : List D} {xs : List V} (r : RDs K mg G l xs) (g : Same G H) (hp : H p = none) : RD K mg (upd G p (.lst xs)) (.lst l) (.ref p) := by
 rw [RD]
 exact ⟨p, xs, rfl, SqL.of upd_same, r.same (same_new (new_none g hp) _)⟩
theorem RD.ofT {G : Hp} {a : Addr} {l : List D} {xs : List V} (h : SqT K G a xs) (r : RDs K mg G l xs) : RD K mg G (.tup l) (.ref a) := by rw [RD]; exact ⟨a, xs, rfl, h, r⟩
theorem RD.ofL {G : Hp} {a : Addr} {l : List D} {xs : List V} (h : SqL K G a xs) (r : RDs K mg G l xs) : RD K mg G (.lst l) (.ref a) := by rw [RD]; exact ⟨a, xs, rfl, h, r⟩
theorem RD.int' {G : Hp} {i : Int} : RD K mg G (.int i) (.int i) := by rw [RD]
theorem RD.bl' {G : Hp} {i : Bool} : RD K mg G (.bl i) (.bl i) := by rw [RD]
theorem RD.str' {G : Hp} {i : Str} : RD K mg G (.str i) (.str i) := by rw [RD]
theorem RDs.ne_nil {G : Hp} {l : List D} {xs : List V} (r : RDs K mg G l xs) : xs = [] ↔ l = [] := by
 have := r.len
 constructor
 ·rintro rfl; exact List.length_eq_zero_iff.mp this.symm
 ·rintro rfl; exact List.length_eq_zero_iff.mp this
theorem oa_add : OpR X (binaryOp .Add) (r2 X.K X.mg pAdd) := by
 intro pins s σ H x y v u Q I rx ry ⟨G, d1, d2, Q0, X0, g, h1, h2, hr, hk⟩
 have hr' : gAdd d1 d2 Q0 := hr
 unfold gAdd at hr'
 split at hr'
 ·exact op_add pins s σ H x y v u Q I rx ry ⟨_, _, rd_int h1, rd_int h2, hk.now g hr' RD.int'⟩
 ·exact op_add_str pins s σ H x y v u Q I rx ry ⟨_, _, rd_str h1, rd_str h2, hr'.1, hk.now g hr'.2 RD.str'⟩
 ·obtain ⟨a, xs, rfl, s1, r1⟩ := rd_lst h1
  obtain ⟨b, zs, rfl, s2, r2⟩ := rd_lst h2
  exact op_catN pins s σ H _ _ v u Q I rx ry ⟨a, b, xs, zs, rfl, rfl, same_L g s1, same_L g s2, by rw [r1.len, r2.len]; exact hr'.1, fun p hp => hk.new g hp hr'.2 (RD.newL (r1.app r2) g hp)⟩
 ·obtain ⟨a, xs, rfl, s1, r1⟩ := rd_tup h1
  obtain ⟨b, zs, rfl, s2, r2⟩ := rd_tup h2
  by_cases hx : xs = []
  ·subst hx
   have e := r1.ne_nil.mp rfl
   subst e
   exact op_catT0 pins s σ H _ _ v u Q I rx ry ⟨a, b, zs, rfl, rfl, same_T g s1, same_T g s2, hk.now g hr'.2 (RD.ofT s2 r2)⟩
  ·refine op_catT pins s σ H _ _ v u Q I rx ry ⟨a, b, xs, zs, rfl, rfl, same_T g s1, same_T g s2, hx, by rw [r1.len, r2.len]; exact hr'.1, fun e => ?_, fun e p hp => hk.new g hp hr'.2 (RD.newT (r1.app r2) g hp)⟩
   have e := r2.ne_nil.mp e
   subst e
   refine hk.now g hr'.2 ?_
   rw [List.append_nil]
   exact RD.ofT s1 r1
 ·exact hr'.elim
theorem gI_some {g : Int -> Int -> DK -> Prop} {a b : D} {Q : DK} (h : gI g a b Q) : ∃ i j, a = .int i /\ b = .int j /\ g i j Q := by
 unfold gI at h
 split at h
 ·exact ⟨_, _, rfl, rfl, h⟩
 ·exact h.elim
theorem oi_of {f : Value -> Value -> Sem Value} {C : Int -> Int -> Prop} {gv : Int -> Int -> Int} {hg} (h : OpR X f (rI C fun i j => .int (gv i j))) : OpR X f (r2 X.K X.mg (fnI (fun i j Q => C i j /\ Q (.int (gv i j))) hg)) := h.imp fun x y H Q ⟨G, d1, d2, Q0, X0, g, h1, h2, hr, hk⟩ => by
 obtain ⟨i, j, rfl, rfl, c, q⟩ := gI_some (show gI (fun i j Q => C i j /\ Q (.int (gv i j))) d1 d2 Q0 from hr)
 exact ⟨i, j, rd_int h1, rd_int h2, c, hk.now g q RD.int'⟩
theorem oa_sub : OpR X (binaryOp .Sub) (r2 X.K X.mg pSub) := op_sub.imp fun x y H Q ⟨G, d1, d2, Q0, X0, g, h1, h2, hr, hk⟩ => by
 obtain ⟨i, j, rfl, rfl, q⟩ := gI_some (show gI (fun i j Q => Q (.int (i - j))) d1 d2 Q0 from hr)
 exact ⟨i, j, rd_int h1, rd_int h2, hk.now g q RD.int'⟩
theorem oa_fdiv : OpR X (binaryOp .FloorDiv) (r2 X.K X.mg pFdiv) := oi_of op_fdivB
theorem oa_mod : OpR X (binaryOp .Mod) (r2 X.K X.mg pMod) := oi_of op_modN
theorem oa_pow : OpR X (binaryOp .Pow) (r2 X.K X.mg pPow) := oi_of op_pow
theorem ou_neg : UnR X (unaryOp .USub) (r1 X.K X.mg pNeg) := by
 intro pins s σ H x v Q I rx ⟨G, d, Q0, X0, g, h1, hr, hk⟩
 have hr' : gNeg d Q0 := hr
 unfold gNeg at hr'
 split at hr'
 ·exact un_neg pins s σ H x v Q I rx ⟨_, rd_int h1, hk.now g hr' RD.int'⟩
 ·exact hr'.elim
def pMulI : Fn := fnI (fun i j Q => CMulB i j /\ Q (.int (i * j))) fun _ _ _ _ m h => ⟨h.1, m _ h.2⟩
theorem oa_mul : OpR X (binaryOp .Mult) (r2 X.K X.mg pMulI) := oi_of op_mulB
end
end Pu
set_option Elab.async false
set_option linter.all false
set_option maxRecDepth 100000
set_option maxHeartbeats 4000000
namespace HT
open PySem PyProof.Rows
section
open PySem.SeqAt
open PySem.AutoSeq1 (wpAny_loadPart')
open PySem.MeetsSeq PySem.MeetsSeq2 PySem.MeetsSeq3
theorem rcGt_int (A : Around) (s : Shared) (a : Int) (t : Tok) (c : Int) (u : Tok) (prog : Program) (w : World) (E : Value -> Shared -> Prop) (Q : Value -> Shared -> Prop) (h : Q (.bool (decide (c < a))) s) :
  wpAny (model prog w) A (richCompare .Gt (.int a t) (.int c u)) Q E s :=
 (PyProof.Rows.gt_int h : wpAny (model prog w) A (compareOp .Gt (.int a t) (.int c u)) Q E s)
theorem tuple_gt_ints (l b : Addr) (items items2 : Array Value) (n n2 : Nat) (dd dd2 : Option Addr) (sl sl2 : Array (Option Value)) (ns ms : List Int) (hi : IntsAre items.toList ns) (hj : IntsAre items2.toList ms) :
  Meets (Builtin.«tuple.__gt__» ⟨[.ref l, .ref b], []⟩)
   (fun _ R s => s.heap.get? l = some { cls := .type "tuple", dict := dd, data := .seq items n, slots := sl } /\ s.heap.get? b = some { cls := .type "tuple", dict := dd2, data := .seq items2 n2, slots := sl2 } /\
    R (.ok (.ret (.bool (lexLt ms ns)))) s) :=
 .of_wp fun prog w A R s h => by
  obtain ⟨hp, g, d, tk, os⟩ := s; obtain ⟨hl, hb, h⟩ := h
  have f2 := AutoSeq1.sub_tuple_tuple
  have z1 : items.size = ns.length := by rw [<- hi.length]; simp
  have z2 : items2.size = ms.length := by rw [<- hj.length]; simp
  wp_walk using wpAny_loadPart' hl, wpAny_loadPart' hb, wpAny_forIn_list _ (fun rest b s' => b.1 = none /\ s' = ⟨hp, g, d, tk, os⟩ /\ ∃ (vs ws : List Value) (ns' ms' : List Int), rest = vs.zip ws /\
   IntsAre vs ns' /\ IntsAre ws ms' /\ ns'.length + items2.size = ms'.length + items.size /\ R (.ok (.ret (.bool (lexLt ms' ns')))) ⟨hp, g, d, tk, os⟩) _
  case turn =>
   rintro ⟨y, x⟩ rest b s' ⟨hb', rfl, vs, ws, ns', ms', hz, hvi, hwi, hlen, hR⟩
   cases hvi with
   | nil => rw [List.zip_nil_left] at hz; cases hz
   | cons a t hvi' =>
    cases hwi with
    | nil => rw [List.zip_nil_right] at hz; cases hz
    | cons c u hwi' =>
     rw [List.zip_cons_cons] at hz
     injection hz with hyx hrest
     injection hyx with hy hx
     subst hy hx
     rw [lexLt_cons] at hR
     simp only [List.length_cons] at hlen
     obtain ⟨e, he, hiff⟩ := eqAt_int A.in1 ⟨hp, g, d, tk, os⟩ a t c u
     refine wpAny_bind (he prog w _ _ ?_)
     cases e with
     | true =>
      rw [if_pos (hiff.mp rfl).symm] at hR
      wp_walk
      exact ⟨rfl, rfl, _, _, _, _, hrest, hvi', hwi', by omega, hR⟩
     | false =>
      rw [if_neg (fun q => absurd (hiff.mpr (Eq.symm q)) Bool.false_ne_true)] at hR
      have hri := rcGt_int A.in1 ⟨hp, g, d, tk, os⟩ a t c u prog w
      wp_walk using hri
      exact ⟨_, rfl, by simpa using hR⟩
  case fin =>
   rintro ⟨b1, b2⟩ s' ⟨hb', rfl, vs, ws, ns', ms', hz, hvi, hwi, hlen, hR⟩
   simp only at hb'
   subst hb'
   have hv : lexLt ms' ns' = decide (items2.size < items.size) := by
    cases hvi with
    | nil =>
     cases hwi with
     | nil =>
      simp only [List.length_nil] at hlen
      rw [lexLt_nil_nil]
      exact (decide_eq_false (by omega)).symm
     | cons c u hw =>
      simp only [List.length_nil, List.length_cons] at hlen
      rw [lexLt_cons_nil]
      exact (decide_eq_false (by omega)).symm
    | cons a t hv =>
     cases hwi with
     | nil =>
      simp only [List.length_nil, List.length_cons] at hlen
      rw [lexLt_nil_cons]
      exact (decide_eq_true (by omega)).symm
     | cons c u hw =>
      rw [List.zip_cons_cons] at hz
      cases hz
   rw [hv] at hR
   wp_walk
   exact ⟨_, rfl, by simpa [Builtin.Tuple.tupleCompareSizes] using hR⟩
  case h =>
   exact ⟨rfl, rfl, items.toList, items2.toList, ns, ms, rfl, hi, hj, by omega, h⟩
theorem rcLe_int (A : Around) (s : Shared) (a : Int) (t : Tok) (c : Int) (u : Tok) (prog : Program) (w : World) (E : Value -> Shared -> Prop) (Q : Value -> Shared -> Prop) (h : Q (.bool (decide (a <= c))) s) :
  wpAny (model prog w) A (richCompare .LtE (.int a t) (.int c u)) Q E s :=
 (PyProof.Rows.le_int h : wpAny (model prog w) A (compareOp .LtE (.int a t) (.int c u)) Q E s)
theorem tuple_le_ints (l b : Addr) (items items2 : Array Value) (n n2 : Nat) (dd dd2 : Option Addr) (sl sl2 : Array (Option Value)) (ns ms : List Int) (hi : IntsAre items.toList ns) (hj : IntsAre items2.toList ms) :
  Meets (Builtin.«tuple.__le__» ⟨[.ref l, .ref b], []⟩)
   (fun _ R s => s.heap.get? l = some { cls := .type "tuple", dict := dd, data := .seq items n, slots := sl } /\ s.heap.get? b = some { cls := .type "tuple", dict := dd2, data := .seq items2 n2, slots := sl2 } /\
    R (.ok (.ret (.bool (!lexLt ms ns)))) s) :=
 .of_wp fun prog w A R s h => by
  obtain ⟨hp, g, d, tk, os⟩ := s; obtain ⟨hl, hb, h⟩ := h
  have f2 := AutoSeq1.sub_tuple_tuple
  have z1 : items.size = ns.length := by rw [<- hi.length]; simp
  have z2 : items2.size = ms.length := by rw [<- hj.length]; simp
  wp_walk using wpAny_loadPart' hl, wpAny_loadPart' hb, wpAny_forIn_list _ (fun rest b s' => b.1 = none /\ s' = ⟨hp, g, d, tk, os⟩ /\ ∃ (vs ws : List Value) (ns' ms' : List Int), rest = vs.zip ws /\
   IntsAre vs ns' /\ IntsAre ws ms' /\ ns'.length + items2.size = ms'.length + items.size /\ R (.ok (.ret (.bool (!lexLt ms' ns')))) ⟨hp, g, d, tk, os⟩) _
  case turn =>
   rintro ⟨y, x⟩ rest b s' ⟨hb', rfl, vs, ws, ns', ms', hz, hvi, hwi, hlen, hR⟩
   cases hvi with
   | nil => rw [List.zip_nil_left] at hz; cases hz
   | cons a t hvi' =>
    cases hwi with
    | nil => rw [List.zip_nil_right] at hz; cases hz
    | cons c u hwi' =>
     rw [List.zip_cons_cons] at hz
     injection hz with hyx hrest
     injection hyx with hy hx
     subst hy hx
     rw [lexLt_cons] at hR
     simp only [List.length_cons] at hlen
     obtain ⟨e, he, hiff⟩ := eqAt_int A.in1 ⟨hp, g, d, tk, os⟩ a t c u
     refine wpAny_bind (he prog w _ _ ?_)
     cases e with
     | true =>
      rw [if_pos (hiff.mp rfl).symm] at hR
      wp_walk
      exact ⟨rfl, rfl, _, _, _, _, hrest, hvi', hwi', by omega, hR⟩
     | false =>
      have hne : ¬ c = a := fun q => absurd (hiff.mpr (Eq.symm q)) Bool.false_ne_true
      rw [if_neg hne] at hR
      have hri := rcLe_int A.in1 ⟨hp, g, d, tk, os⟩ a t c u prog w
      have ed : (!decide (c < a)) = decide (a <= c) := by
       rw [<- decide_not, decide_eq_decide]; omega
      rw [ed] at hR
      wp_walk using hri
      exact ⟨_, rfl, by simpa using hR⟩
  case fin =>
   rintro ⟨b1, b2⟩ s' ⟨hb', rfl, vs, ws, ns', ms', hz, hvi, hwi, hlen, hR⟩
   simp only at hb'
   subst hb'
   have hv : (!lexLt ms' ns') = decide (items.size <= items2.size) := by
    cases hvi with
    | nil =>
     cases hwi with
     | nil =>
      simp only [List.length_nil] at hlen
      rw [lexLt_nil_nil]
      exact (decide_eq_true (by omega)).symm
     | cons c u hw =>
      simp only [List.length_nil, List.length_cons] at hlen
      rw [lexLt_cons_nil]
      exact (decide_eq_true (by omega)).symm
    | cons a t hv =>
     cases hwi with
     | nil =>
      simp only [List.length_nil, List.length_cons] at hlen
      rw [lexLt_nil_cons]
      exact (decide_eq_false (by omega)).symm
     | cons c u hw =>
      rw [List.zip_cons_cons] at hz
      cases hz
   rw [hv] at hR
   wp_walk
   exact ⟨_, rfl, by simpa [Builtin.Tuple.tupleCompareSizes] using hR⟩
  case h =>
   exact ⟨rfl, rfl, items.toList, items2.toList, ns, ms, rfl, hi, hj, by omega, h⟩
end
section
variable {prog : Program} {w : World} {A : Around} {E : Value -> Shared -> Prop} {s : Shared}
theorem gt_tupInts {l b : Addr} {items items2 : Array Value} {ns ms : List Int} {Q : Value -> Shared -> Prop} (hl : IsTup s.heap l items) (hb : IsTup s.heap b items2) (hi : IntsAre items.toList ns) (hj : IntsAre items2.toList ms)
  (hu : A.units < cLine) (h : Q (.bool (lexLt ms ns)) s) : wpAny (model prog w) A (compareOp .Gt (.ref l) (.ref b)) Q E s := by
 obtain ⟨⟨cls, dd, data, sl⟩, ho, hc, n, hd⟩ := id hl
 obtain ⟨⟨cls2, dd2, data2, sl2⟩, ho2, hc2, n2, hd2⟩ := id hb
 simp only at hc hd hc2 hd2
 subst hc hd hc2 hd2
 exact richCompare_meets_room (op := .Gt) ⟨_, ho, rfl⟩ ⟨_, ho2, rfl⟩ PySem.F.slot_tuple_gt PySem.F.entry_tuple_gt (PySem.F.args_tuple_gt_2 _ _) (tuple_gt_ints l b items items2 n n2 dd dd2 sl sl2 ns ms hi hj)
  ⟨ho, ho2, show Value.bool (lexLt ms ns) ≠ Value.notImplemented /\ Q (.bool (lexLt ms ns)) s from ⟨(fun x => nomatch x), h⟩⟩ hu
theorem le_tupInts {l b : Addr} {items items2 : Array Value} {ns ms : List Int} {Q : Value -> Shared -> Prop} (hl : IsTup s.heap l items) (hb : IsTup s.heap b items2) (hi : IntsAre items.toList ns) (hj : IntsAre items2.toList ms)
  (hu : A.units < cLine) (h : Q (.bool (!lexLt ms ns)) s) : wpAny (model prog w) A (compareOp .LtE (.ref l) (.ref b)) Q E s := by
 obtain ⟨⟨cls, dd, data, sl⟩, ho, hc, n, hd⟩ := id hl
 obtain ⟨⟨cls2, dd2, data2, sl2⟩, ho2, hc2, n2, hd2⟩ := id hb
 simp only at hc hd hc2 hd2
 subst hc hd hc2 hd2
 exact richCompare_meets_room (op := .LtE) ⟨_, ho, rfl⟩ ⟨_, ho2, rfl⟩ PySem.F.slot_tuple_le PySem.F.entry_tuple_le (PySem.F.args_tuple_le_2 _ _) (tuple_le_ints l b items items2 n n2 dd dd2 sl sl2 ns ms hi hj)
  ⟨ho, ho2, show Value.bool (!lexLt ms ns) ≠ Value.notImplemented /\ Q (.bool (!lexLt ms ns)) s from ⟨(fun x => nomatch x), h⟩⟩ hu
end
end HT
namespace Pu
open PySem PySem.Spec PyProof.Rows L2
def ints? : List D -> Option (List Int)
 | [] => some []
 | .int i :: r => match ints? r with
  | some l => some (i :: l)
  | none => none
 | _ :: _ => none
theorem ints_some : ∀ {l : List D} {ns : List Int}, ints? l = some ns -> l = ns.map D.int
 | [], ns, h => by
  have : ns = [] := by simpa [ints?] using h.symm
  subst this; rfl
 | .int i :: r, ns, h => by
  unfold ints? at h
  cases q : ints? r with
  | none => rw [q] at h; cases h
  | some l =>
   rw [q] at h
   cases h
   rw [ints_some q]; rfl
 | .non :: _, _, h => by simp [ints?] at h
 | .bl _ :: _, _, h => by simp [ints?] at h
 | .str _ :: _, _, h => by simp [ints?] at h
 | .tup _ :: _, _, h => by simp [ints?] at h
 | .lst _ :: _, _, h => by simp [ints?] at h
 | .dct _ _ :: _, _, h => by simp [ints?] at h
 | .fn _ :: _, _, h => by simp [ints?] at h
 | .exc _ :: _, _, h => by simp [ints?] at h
theorem ints_map (ns : List Int) : ints? (ns.map D.int) = some ns := by
 induction ns with
 | nil => rfl
 | cons n ns ih => rw [List.map_cons, ints?, ih]
def onI (o : Option (List Int)) (Q : List Int -> Prop) : Prop := match o with
 | some l => Q l
 | none => False
theorem onI_mono {o : Option (List Int)} {Q Q' : List Int -> Prop} (m : ∀ d, Q d -> Q' d) (h : onI o Q) : onI o Q' := by
 cases o with
 | none => exact h
 | some d => exact m _ h
theorem onI_some {o : Option (List Int)} {Q : List Int -> Prop} (h : onI o Q) : ∃ d, o = some d /\ Q d := by
 cases o with
 | none => exact h.elim
 | some d => exact ⟨d, rfl, h⟩
def gCmp (f : Int -> Int -> Bool) (t : List Int -> List Int -> Bool) (a b : D) (Q : DK) : Prop := match a, b with
 | .int i, .int j => Q (.bl (f i j))
 | .tup l, .tup m => onI (ints? l) fun ns => onI (ints? m) fun ms => Q (.bl (t ns ms))
 | _, _ => False
theorem gCmp_mono {f : Int -> Int -> Bool} {t : List Int -> List Int -> Bool} (a b : D) (Q Q' : DK) (m : ∀ d, Q d -> Q' d) (h : gCmp f t a b Q) : gCmp f t a b Q' := by
 unfold gCmp at h ⊢
 split at h
 ·exact m _ h
 ·exact onI_mono (fun _ h => onI_mono (fun _ h => m _ h) h) h
 ·exact h.elim
def pLt : Fn := fn2 (gCmp (fun i j => decide (i < j)) fun ns ms => HT.lexLt ns ms) gCmp_mono
def pGt : Fn := fn2 (gCmp (fun i j => decide (j < i)) fun ns ms => HT.lexLt ms ns) gCmp_mono
def pLe : Fn := fn2 (gCmp (fun i j => decide (i <= j)) fun ns ms => !HT.lexLt ms ns) gCmp_mono
section
variable {X : Cx} {K : PySem.W.Frag} {mg : Str -> Option Value}
theorem rds_ints {G : Hp} : ∀ (ns : List Int) {xs : List V}, RDs K mg G (ns.map D.int) xs -> xs = ns.map V.int
 | [], xs, h => by rw [List.map_nil, RDs] at h; subst h; rfl
 | n :: ns, xs, h => by
  rw [List.map_cons, RDs] at h
  obtain ⟨x, r, rfl, h1, h2⟩ := h
  rw [rd_int h1, rds_ints ns h2]; rfl
theorem ints_rds {G : Hp} : ∀ (ns : List Int), RDs K mg G (ns.map D.int) (ns.map V.int)
 | [] => RDs.nil
 | n :: ns => RDs.cons RD.int' (ints_rds ns)
theorem oc_of {op : CmpOp} {f : Int -> Int -> Bool} {t : List Int -> List Int -> Bool} {hm} (hi : OpR X (compareOp op) (rI0 fun i j => .bl (f i j))) (ht : OpR X (compareOp op) (fun x y H Q => ∃ a b ns ms, x = .ref a /\ y = .ref b /\ SqT X.K H a (ns.map V.int) /\ SqT X.K H b (ms.map V.int) /\ Q (.bl (t ns ms)) H)) :
  OpR X (compareOp op) (r2 X.K X.mg (fn2 (gCmp f t) hm)) := by
 intro pins s σ H x y v u Q I rx ry ⟨G, d1, d2, Q0, X0, g, h1, h2, hr, hk⟩
 have hr' : gCmp f t d1 d2 Q0 := hr
 unfold gCmp at hr'
 split at hr'
 ·exact hi pins s σ H x y v u Q I rx ry ⟨_, _, rd_int h1, rd_int h2, hk.now g hr' RD.bl'⟩
 ·obtain ⟨ns, e1, hr'⟩ := onI_some hr'
  obtain ⟨ms, e2, hr'⟩ := onI_some hr'
  obtain ⟨a, xs, rfl, s1, r1⟩ := rd_tup h1
  obtain ⟨b, ys, rfl, s2, r2⟩ := rd_tup h2
  rw [ints_some e1] at r1
  rw [ints_some e2] at r2
  rw [rds_ints ns r1] at s1
  rw [rds_ints ms r2] at s2
  exact ht pins s σ H _ _ v u Q I rx ry ⟨a, b, ns, ms, rfl, rfl, same_T g s1, same_T g s2, hk.now g hr' RD.bl'⟩
 ·exact hr'.elim
theorem oc_lt (hu : X.A.units + 64 < cLine) : OpR X (compareOp .Lt) (r2 X.K X.mg pLt) := oc_of op_lt (op_ltT (by omega))
theorem op_gtT (hu : X.A.units < cLine) : OpR X (compareOp .Gt) (fun x y H Q => ∃ a b ns ms, x = .ref a /\ y = .ref b /\ SqT X.K H a (ns.map V.int) /\ SqT X.K H b (ms.map V.int) /\ Q (.bl (HT.lexLt ms ns)) H) := by
 intro pins s σ H x y v u Q I rx ry h
 obtain ⟨a, b, ns, ms, rfl, rfl, ha, hb, q⟩ := h
 cases rx
 cases ry
 obtain ⟨its, r1, p1, _⟩ := I.tuple ha
 obtain ⟨its2, r2, p2, _⟩ := I.tuple hb
 exact HT.gt_tupInts p1 p2 (intsAre_of r1) (intsAre_of r2) hu ⟨.bl (HT.lexLt ms ns), H, I, rfl, q⟩
theorem op_leT (hu : X.A.units < cLine) : OpR X (compareOp .LtE) (fun x y H Q => ∃ a b ns ms, x = .ref a /\ y = .ref b /\ SqT X.K H a (ns.map V.int) /\ SqT X.K H b (ms.map V.int) /\ Q (.bl (!HT.lexLt ms ns)) H) := by
 intro pins s σ H x y v u Q I rx ry h
 obtain ⟨a, b, ns, ms, rfl, rfl, ha, hb, q⟩ := h
 cases rx
 cases ry
 obtain ⟨its, r1, p1, _⟩ := I.tuple ha
 obtain ⟨its2, r2, p2, _⟩ := I.tuple hb
 exact HT.le_tupInts p1 p2 (intsAre_of r1) (intsAre_of r2) hu ⟨.bl (!HT.lexLt ms ns), H, I, rfl, q⟩
theorem oc_gt (hu : X.A.units + 64 < cLine) : OpR X (compareOp .Gt) (r2 X.K X.mg pGt) := oc_of op_gt (op_gtT (by omega))
theorem oc_le (hu : X.A.units + 64 < cLine) : OpR X (compareOp .LtE) (r2 X.K X.mg pLe) := oc_of op_le (op_leT (by omega))
def pGeI : Fn := fnI (fun i j Q => Q (.bl (decide (j <= i)))) fun _ _ _ _ m h => m _ h
theorem oc_ge : OpR X (compareOp .GtE) (r2 X.K X.mg pGeI) := op_ge.imp fun x y H Q ⟨G, d1, d2, Q0, X0, g, h1, h2, hr, hk⟩ => by
 obtain ⟨i, j, rfl, rfl, q⟩ := gI_some (show gI (fun i j Q => Q (.bl (decide (j <= i)))) d1 d2 Q0 from hr)
 exact ⟨i, j, rd_int h1, rd_int h2, hk.now g q RD.bl'⟩
end
end Pu
set_option Elab.async false
set_option linter.all false
set_option maxRecDepth 100000
set_option maxHeartbeats 4000000
namespace Pu
open PySem PySem.Spec PyProof.Rows L2
mutual
def py : D -> PyData
 | .non => .none
 | .bl b => .bool b
 | .int i => .int i
 | .str x => .str x
 | .tup l => .tuple (pys l)
 | .lst l => .list (pys l)
 | _ => .none
def pys : List D -> List PyData
 | [] => []
 | d :: ds => py d :: pys ds
end
def Da : Nat -> D -> Prop
 | _, .non => True
 | _, .bl _ => True
 | _, .int _ => True
 | _, .str x => PyData.strOk x = true
 | 0, .tup _ => False
 | n + 1, .tup l => ∀ d ∈ l, Da n d
 | 0, .lst _ => False
 | n + 1, .lst l => ∀ d ∈ l, Da n d
 | _, .dct _ _ => False
 | _, .fn _ => False
 | _, .exc _ => False
section
variable {X : Cx} {K : PySem.W.Frag} {mg : Str -> Option Value}
theorem Da.tup {n : Nat} {l : List D} : Da (n + 1) (.tup l) ↔ ∀ d ∈ l, Da n d := by rw [Da]
theorem Da.lst {n : Nat} {l : List D} : Da (n + 1) (.lst l) ↔ ∀ d ∈ l, Da n d := by rw [Da]
theorem Da.str {n : Nat} {x : Str} : Da n (.str x) ↔ PyData.strOk x = true := by cases n <;> rw [Da]
theorem Da.canLay : ∀ (n : Nat) (d : D), Da n d -> (py d).canLay0 = true /\ (py d).depth <= n := by
 intro n
 induction n with
 | zero =>
  intro d h
  cases d with
  | non => exact ⟨rfl, Nat.le_refl _⟩
  | bl _ => exact ⟨rfl, Nat.le_refl _⟩
  | int _ => exact ⟨rfl, Nat.le_refl _⟩
  | str x => exact ⟨by rw [py, PyData.canLay0]; exact Da.str.mp h, by rw [py, PyData.depth]; exact Nat.le_refl _⟩
  | _ => rw [Da] at h; exact h.elim
 | succ n ih =>
  have all : ∀ l : List D, (∀ d ∈ l, Da n d) -> PyData.canLayAll0 (pys l) = true /\ PyData.depthAll (pys l) <= n := by
   intro l
   induction l with
   | nil => intro _; exact ⟨rfl, Nat.zero_le _⟩
   | cons d l ihl =>
    intro h
    obtain ⟨a1, a2⟩ := ih d (h d List.mem_cons_self)
    obtain ⟨b1, b2⟩ := ihl fun x hx => h x (List.mem_cons_of_mem _ hx)
    rw [pys, PyData.canLayAll0, PyData.depthAll, a1, b1]
    exact ⟨rfl, Nat.max_le.mpr ⟨a2, b2⟩⟩
  intro d h
  cases d with
  | non => exact ⟨rfl, Nat.zero_le _⟩
  | bl _ => exact ⟨rfl, Nat.zero_le _⟩
  | int _ => exact ⟨rfl, Nat.zero_le _⟩
  | str x => exact ⟨by rw [py, PyData.canLay0]; exact Da.str.mp h, by rw [py, PyData.depth]; exact Nat.zero_le _⟩
  | tup l =>
   obtain ⟨a, b⟩ := all l (Da.tup.mp h)
   exact ⟨by rw [py, PyData.canLay0]; exact a, by rw [py, PyData.depth]; omega⟩
  | lst l =>
   obtain ⟨a, b⟩ := all l (Da.lst.mp h)
   exact ⟨by rw [py, PyData.canLay0]; exact a, by rw [py, PyData.depth]; omega⟩
  | _ => rw [Da] at h; exact h.elim
theorem Da.shaped {n : Nat} {d : D} (h : Da n d) (hn : n <= 64) : PySem.SeqAt.shaped (py d) = true := by
 obtain ⟨a, b⟩ := Da.canLay n d h
 unfold PySem.SeqAt.shaped
 rw [a, decide_eq_true (Nat.le_trans b hn)]
 rfl
theorem Da.rp {G : Hp} : ∀ (n : Nat) (d : D) {v : V}, Da n d -> RD K mg G d v -> Rp K G (py d) v := by
 intro n
 induction n with
 | zero =>
  intro d v h r
  cases d with
  | non => rw [py, Rp]; exact rd_non r
  | bl _ => rw [py, Rp]; exact rd_bl r
  | int _ => rw [py, Rp]; exact rd_int r
  | str x => rw [py, Rp]; exact rd_str r
  | _ => rw [Da] at h; exact h.elim
 | succ n ih =>
  have all : ∀ (l : List D) {xs : List V}, (∀ d ∈ l, Da n d) -> RDs K mg G l xs -> RpL K G (pys l) xs := by
   intro l
   induction l with
   | nil => intro xs _ r; rw [RDs] at r; subst r; rw [pys, RpL]
   | cons d l ihl =>
    intro xs h r
    rw [RDs] at r
    obtain ⟨x, r', rfl, r1, r2⟩ := r
    rw [pys, RpL]
    exact ⟨x, r', rfl, ih d (h d List.mem_cons_self) r1, ihl (fun x hx => h x (List.mem_cons_of_mem _ hx)) r2⟩
  intro d v h r
  cases d with
  | non => rw [py, Rp]; exact rd_non r
  | bl _ => rw [py, Rp]; exact rd_bl r
  | int _ => rw [py, Rp]; exact rd_int r
  | str x => rw [py, Rp]; exact rd_str r
  | tup l =>
   obtain ⟨a, xs, rfl, h1, h2⟩ := rd_tup r
   rw [py, Rp]
   exact ⟨a, xs, rfl, h1, all l (Da.tup.mp h) h2⟩
  | lst l =>
   obtain ⟨a, xs, rfl, h1, h2⟩ := rd_lst r
   rw [py, Rp]
   exact ⟨a, xs, rfl, h1, all l (Da.lst.mp h) h2⟩
  | _ => rw [Da] at h; exact h.elim
end
def deq (a b : D) : Bool := PyData.eqv (py a) (py b)
def gEq (neg : Bool) (a b : D) (Q : DK) : Prop := match a, b with
 | .int i, .int j => Q (.bl (if neg then !decide (i = j) else decide (i = j)))
 | .str x, .str y => Q (.bl (if neg then !decide (x = y) else decide (x = y)))
 | .bl x, .bl y => Q (.bl (if neg then !decide (x = y) else decide (x = y)))
 | a, b => Da 60 a /\ Da 60 b /\ Q (.bl (if neg then !deq a b else deq a b))
theorem gEq_mono {neg : Bool} (a b : D) (Q Q' : DK) (m : ∀ d, Q d -> Q' d) (h : gEq neg a b Q) : gEq neg a b Q' := by
 unfold gEq at h ⊢
 split at h
 ·exact m _ h
 ·exact m _ h
 ·exact m _ h
 ·exact ⟨h.1, h.2.1, m _ h.2.2⟩
def pEq : Fn := fn2 (gEq false) gEq_mono
def pNe : Fn := fn2 (gEq true) gEq_mono
section
variable {X : Cx} {K : PySem.W.Frag} {mg : Str -> Option Value}
theorem dec_iff {p q : Prop} [Decidable p] [Decidable q] (h : p ↔ q) : decide p = decide q := by rw [decide_eq_decide]; exact h
theorem oc_eqN {op : CmpOp} {neg : Bool} (h1 : OpR X (compareOp op) (fun x y H Q => scal x y = true /\ Q (.bl (if neg then !decide (x = y) else decide (x = y))) H)) (h2 : OpR X (compareOp op) (rEqD X.K neg)) : OpR X (compareOp op) (r2 X.K X.mg (fn2 (gEq neg) gEq_mono)) := by
 intro pins s σ H x y v u Q I rx ry ⟨G, d1, d2, Q0, X0, g, r1, r2, hr, hk⟩
 have hr' : gEq neg d1 d2 Q0 := hr
 unfold gEq at hr'
 split at hr'
 ·have e1 := rd_int r1; have e2 := rd_int r2
  subst e1; subst e2
  refine h1 pins s σ H _ _ v u Q I rx ry ⟨rfl, ?_⟩
  rw [dec_iff (⟨fun h => V.int.inj h, fun h => congrArg V.int h⟩ : V.int _ = V.int _ ↔ _)]
  exact hk.now g hr' RD.bl'
 ·have e1 := rd_str r1; have e2 := rd_str r2
  subst e1; subst e2
  refine h1 pins s σ H _ _ v u Q I rx ry ⟨rfl, ?_⟩
  rw [dec_iff (⟨fun h => V.str.inj h, fun h => congrArg V.str h⟩ : V.str _ = V.str _ ↔ _)]
  exact hk.now g hr' RD.bl'
 ·have e1 := rd_bl r1; have e2 := rd_bl r2
  subst e1; subst e2
  refine h1 pins s σ H _ _ v u Q I rx ry ⟨rfl, ?_⟩
  rw [dec_iff (⟨fun h => V.bl.inj h, fun h => congrArg V.bl h⟩ : V.bl _ = V.bl _ ↔ _)]
  exact hk.now g hr' RD.bl'
 ·obtain ⟨a1, a2, q⟩ := hr'
  exact h2 pins s σ H x y v u Q I rx ry ⟨_, _, (Da.rp 60 _ a1 r1).same g, (Da.rp 60 _ a2 r2).same g, a1.shaped (by decide), a2.shaped (by decide), hk.now g q RD.bl'⟩
theorem oc_eq (hu : X.A.units + 64 < cLine) : OpR X (compareOp .Eq) (r2 X.K X.mg pEq) := oc_eqN (neg := false) (op_eq.imp fun _ _ _ _ h => h) (op_eqD hu)
theorem oc_ne (hu : X.A.units + 64 < cLine) : OpR X (compareOp .NotEq) (r2 X.K X.mg pNe) := oc_eqN (neg := true) (op_ne.imp fun _ _ _ _ h => h) (op_neD hu)
def isN : D -> Bool
 | .non => true
 | _ => false
def gIs (neg : Bool) (a b : D) (Q : DK) : Prop := match b with
 | .non => Q (.bl (if neg then !isN a else isN a))
 | _ => False
theorem gIs_mono {neg : Bool} (a b : D) (Q Q' : DK) (m : ∀ d, Q d -> Q' d) (h : gIs neg a b Q) : gIs neg a b Q' := by
 unfold gIs at h ⊢
 split at h
 ·exact m _ h
 ·exact h.elim
def pIs : Fn := fn2 (gIs false) gIs_mono
def pIsNot : Fn := fn2 (gIs true) gIs_mono
theorem rd_isN {G : Hp} {d : D} {v : V} (r : RD K mg G d v) : decide (v = .non) = isN d := by
 cases d with
 | non => rw [rd_non r]; rfl
 | bl b => rw [rd_bl r]; rfl
 | int b => rw [rd_int r]; rfl
 | str b => rw [rd_str r]; rfl
 | tup l => obtain ⟨a, xs, rfl, _⟩ := rd_tup r; rfl
 | lst l => obtain ⟨a, xs, rfl, _⟩ := rd_lst r; rfl
 | dct k v => rw [RD] at r; obtain ⟨a, xs, rfl, _⟩ := r; rfl
 | fn n => rw [RD] at r; obtain ⟨a, rfl, _⟩ := r; rfl
 | exc n => rw [RD] at r; obtain ⟨a, xs, rfl, _⟩ := r; rfl
theorem oc_is : OpR X (compareOp .Is) (r2 X.K X.mg pIs) := op_isN.imp fun x y H Q ⟨G, d1, d2, Q0, X0, g, r1, r2, hr, hk⟩ => by
 have hr' : gIs false d1 d2 Q0 := hr
 unfold gIs at hr'
 split at hr'
 ·exact ⟨rd_non r2, by rw [rd_isN r1]; exact hk.now g hr' RD.bl'⟩
 ·exact hr'.elim
theorem fn1_some {g : D -> DK -> Prop} {m} {ds : List D} {Q : DK} {Xp : XP} (h : (fn1 g m).run ds Q Xp) : ∃ d, ds = [d] /\ g d Q := by
 match ds, h with
 | [a], h => exact ⟨a, rfl, h⟩
 | [], h => exact h.elim
 | _ :: _ :: _, h => exact h.elim
theorem fn2_some {g : D -> D -> DK -> Prop} {m} {ds : List D} {Q : DK} {Xp : XP} (h : (fn2 g m).run ds Q Xp) : ∃ d e, ds = [d, e] /\ g d e Q := by
 match ds, h with
 | [a, b], h => exact ⟨a, b, rfl, h⟩
 | [], h => exact h.elim
 | [_], h => exact h.elim
 | _ :: _ :: _ :: _, h => exact h.elim
def gLen (d : D) (Q : DK) : Prop := match d with
 | .lst l => Q (.int (l.length : Int))
 | .tup l => Q (.int (l.length : Int))
 | .str x => x.length <= sizeLine /\ Q (.int (x.length : Int))
 | _ => False
def pLen : Fn := fn1 gLen fun d Q Q' m h => by
 unfold gLen at h ⊢
 split at h
 ·exact m _ h
 ·exact m _ h
 ·exact ⟨h.1, m _ h.2⟩
 ·exact h.elim
theorem cb_len : CallR X (.builtin "len") (rN X.K X.mg pLen) := (CallR.or call_len_seq call_len_str).imp fun vs H Q ⟨G, ds, Q0, X0, g, rds, hr, hk⟩ => by
 obtain ⟨d, rfl, hr'⟩ := fn1_some hr
 obtain ⟨v, rfl, rd⟩ := rds1 rds
 unfold gLen at hr'
 split at hr'
 ·obtain ⟨a, xs, rfl, h1, h2⟩ := rd_lst rd
  exact .inl ⟨a, xs, rfl, .inl (same_L g h1), by rw [h2.len]; exact hk.now g hr' RD.int'⟩
 ·obtain ⟨a, xs, rfl, h1, h2⟩ := rd_tup rd
  exact .inl ⟨a, xs, rfl, .inr (same_T g h1), by rw [h2.len]; exact hk.now g hr' RD.int'⟩
 ·have e := rd_str rd
  subst e
  exact .inr ⟨_, rfl, hr'.1, hk.now g hr'.2 RD.int'⟩
 ·exact hr'.elim
def gAbs (d : D) (Q : DK) : Prop := match d with
 | .int i => Q (.int (if i < 0 then -i else i))
 | _ => False
def pAbs : Fn := fn1 gAbs fun d Q Q' m h => by
 unfold gAbs at h ⊢
 split at h
 ·exact m _ h
 ·exact h.elim
theorem cb_abs : CallR X (.builtin "abs") (rN X.K X.mg pAbs) := call_abs.imp fun vs H Q ⟨G, ds, Q0, X0, g, rds, hr, hk⟩ => by
 obtain ⟨d, rfl, hr'⟩ := fn1_some hr
 obtain ⟨v, rfl, rd⟩ := rds1 rds
 unfold gAbs at hr'
 split at hr'
 ·have e := rd_int rd
  subst e
  exact ⟨_, rfl, hk.now g hr' RD.int'⟩
 ·exact hr'.elim
def gInt (d : D) (Q : DK) : Prop := match d with
 | .int i => Q (.int i)
 | .bl b => Q (.int (if b then 1 else 0))
 | .str x => ∃ n, PySem.intText? x = some n /\ x.length <= 640 /\ Q (.int n)
 | _ => False
def pInt : Fn := fn1 gInt fun d Q Q' m h => by
 unfold gInt at h ⊢
 split at h
 ·exact m _ h
 ·exact m _ h
 ·obtain ⟨n, h1, h2, h3⟩ := h
  exact ⟨n, h1, h2, m _ h3⟩
 ·exact h.elim
theorem ct_int : CallR X (.type "int") (rN X.K X.mg pInt) := (CallR.or call_int1 call_intS).imp fun vs H Q ⟨G, ds, Q0, X0, g, rds, hr, hk⟩ => by
 obtain ⟨d, rfl, hr'⟩ := fn1_some hr
 obtain ⟨v, rfl, rd⟩ := rds1 rds
 unfold gInt at hr'
 split at hr'
 ·have e := rd_int rd
  subst e
  exact .inl (.inl ⟨_, rfl, hk.now g hr' RD.int'⟩)
 ·have e := rd_bl rd
  subst e
  exact .inl (.inr ⟨_, rfl, hk.now g hr' RD.int'⟩)
 ·have e := rd_str rd
  subst e
  obtain ⟨n, h1, h2, h3⟩ := hr'
  exact .inr ⟨_, n, rfl, h1, h2, hk.now g h3 RD.int'⟩
 ·exact hr'.elim
def gTupOf (d : D) (Q : DK) : Prop := match d with
 | .lst l => Q (.tup l)
 | .tup l => Q (.tup l)
 | _ => False
def pTupOf : Fn := fn1 gTupOf fun d Q Q' m h => by
 unfold gTupOf at h ⊢
 split at h
 ·exact m _ h
 ·exact m _ h
 ·exact h.elim
theorem ct_tuple : CallR X (.type "tuple") (rN X.K X.mg pTupOf) := call_tuple_of.imp fun vs H Q ⟨G, ds, Q0, X0, g, rds, hr, hk⟩ => by
 obtain ⟨d, rfl, hr'⟩ := fn1_some hr
 obtain ⟨v, rfl, rd⟩ := rds1 rds
 unfold gTupOf at hr'
 split at hr'
 ·obtain ⟨a, xs, rfl, h1, h2⟩ := rd_lst rd
  exact ⟨a, xs, rfl, .inl ⟨same_L g h1, fun p hp => hk.new g hp hr' (RD.newT h2 g hp)⟩⟩
 ·obtain ⟨a, xs, rfl, h1, h2⟩ := rd_tup rd
  exact ⟨a, xs, rfl, .inr ⟨same_T g h1, hk.now g hr' (RD.ofT h1 h2)⟩⟩
 ·exact hr'.elim
def gLstOf (d : D) (Q : DK) : Prop := match d with
 | .lst l => Q (.lst l)
 | .tup l => Q (.lst l)
 | _ => False
def pLstOf : Fn := fn1 gLstOf fun d Q Q' m h => by
 unfold gLstOf at h ⊢
 split at h
 ·exact m _ h
 ·exact m _ h
 ·exact h.elim
def gMaxI (d : D) (Q : DK) : Prop := match d with
 | .lst l => onI (ints? l) fun ns => ns ≠ [] /\ ∀ m, m ∈ ns -> (∀ x ∈ ns, x <= m) -> Q (.int m)
 | _ => False
def gSum (d : D) (Q : DK) : Prop := match d with
 | .lst l => onI (ints? l) fun ns => Q (.int ns.sum)
 | _ => False
def pSum : Fn := fn1 gSum fun d Q Q' m h => by
 unfold gSum at h ⊢
 split at h
 ·exact onI_mono (fun _ q => m _ q) h
 ·exact h.elim
theorem cb_sum (hc : X.calm = true) : CallR X (.builtin "sum") (rN X.K X.mg pSum) := (call_sumL hc).imp fun vs H Q ⟨G, ds, Q0, X0, g, rds, hr, hk⟩ => by
 obtain ⟨d, rfl, hr'⟩ := fn1_some hr
 obtain ⟨v, rfl, rd⟩ := rds1 rds
 unfold gSum at hr'
 split at hr'
 ·obtain ⟨ns, e, q⟩ := onI_some hr'
  obtain ⟨a, xs, rfl, h1, h2⟩ := rd_lst rd
  rw [ints_some e] at h2
  rw [rds_ints ns h2] at h1
  exact ⟨a, ns, rfl, same_L g h1, hk.now g q RD.int'⟩
 ·exact hr'.elim
def gIx (a b : D) (Q : DK) : Prop := match a, b with
 | .lst l, .int i => onV (atI l i) Q
 | .tup l, .int i => onV (atI l i) Q
 | .str x, .int i => x.length <= sizeLine /\ ∃ c, atI x.cps.toList i = some c /\ Q (.str ⟨#[c]⟩)
 | _, _ => False
theorem gIx_mono (a b : D) (Q Q' : DK) (m : ∀ d, Q d -> Q' d) (h : gIx a b Q) : gIx a b Q' := by
 unfold gIx at h ⊢
 split at h
 ·exact onV_mono m h
 ·exact onV_mono m h
 ·obtain ⟨h1, c, h2, h3⟩ := h
  exact ⟨h1, c, h2, m _ h3⟩
 ·exact h.elim
def pIx : Fn := fn2 gIx gIx_mono
theorem IxR.imp {r r' : R2} (h : IxR X r) (i : ∀ x y H Q, r' x y H Q -> r x y H Q) : IxR X r' := fun value slice pins s σ H x y v u Q I rx ry q hs => h value slice pins s σ H x y v u Q I rx ry (i x y H Q q) hs
theorem ix_p : IxR X (r2 X.K X.mg pIx) := IxR.imp ix_seq fun x y H Q ⟨G, d1, d2, Q0, X0, g, r1, r2, hr, hk⟩ => by
 have hr' : gIx d1 d2 Q0 := hr
 unfold gIx at hr'
 split at hr'
 ·obtain ⟨d, e, q⟩ := onV_some hr'
  obtain ⟨a, xs, rfl, h1, h2⟩ := rd_lst r1
  obtain ⟨v, e1, rv⟩ := h2.at e
  exact .inl ⟨a, xs, _, v, rfl, rd_int r2, same_L g h1, e1, hk.now g q rv⟩
 ·obtain ⟨d, e, q⟩ := onV_some hr'
  obtain ⟨a, xs, rfl, h1, h2⟩ := rd_tup r1
  obtain ⟨v, e1, rv⟩ := h2.at e
  exact .inr (.inl ⟨a, xs, _, v, rfl, rd_int r2, same_T g h1, e1, hk.now g q rv⟩)
 ·obtain ⟨h1, c, h2, h3⟩ := hr'
  exact .inr (.inr ⟨_, _, c, rd_str r1, rd_int r2, h1, h2, hk.now g h3 RD.str'⟩)
 ·exact hr'.elim
theorem qx_ix {E : XK} {a b : Expr} {x y : Ex} {pos : Pos} (ha : QX X E a x) (hb : QX X E b y) (hs : PlainIx b) : QX X E (.Subscript a b pos) (.op pIx [x, y]) := QE.imp (qe_ix ix_p ha hb hs) fun _ _ _ h => tx2 lk2 h
end
end Pu
set_option Elab.async false
set_option linter.all false
set_option maxRecDepth 100000
set_option maxHeartbeats 4000000
namespace HT
open PySem PyProof.Rows
section
variable {prog : Program} {w : World} {A : Around} {E : Value -> Shared -> Prop} {s : Shared}
theorem tup_slice {t sl : Addr} {items : Array Value} {vl vu vs : Value} {R : Int × Int × Nat} {Q : Value -> Shared -> Prop} (ht : IsTup s.heap t items) (hs : s.heap.IsSliceOf sl vl vu vs)
  (ha : ∀ {A : Around} {E : Value -> Shared -> Prop} {Q : Int × Int × Nat -> Shared -> Prop}, Q R s -> wpAny (model prog w) A (Builtin.Slice.sliceApplied (.ref sl) (pure (items.size : Int))) Q E s) (hsz : R.2.2 <= sizeLine)
  (h1 : (R.1 == 0 && R.2.1 == 1 && R.2.2 == items.size) = true -> Q (.ref t) s)
  (h2 : ¬ (R.1 == 0 && R.2.1 == 1 && R.2.2 == items.size) = true -> Q (.ref s.heap.objs.size) { s with heap := s.heap.push { cls := .type "tuple", data := .seq ((List.range R.2.2).filterMap fun (k : Nat) => items[(R.1 + (k : Int) * R.2.1).toNat]?).toArray } }) :
  wpAny (model prog w) A (getItem (.ref t) (.ref sl)) Q E s := by
 obtain ⟨os, hos, hcs, hds⟩ := id hs
 have hTs : s.TypeIs (.ref sl) "slice" := ⟨os, hos, hcs⟩
 have htake : sizeOk (.seq ((List.range R.2.2).filterMap fun (k : Nat) => items[(R.1 + (k : Int) * R.2.1).toNat]?).toArray) := by
  show ((List.range R.2.2).filterMap fun (k : Nat) => items[(R.1 + (k : Int) * R.2.1).toNat]?).toArray.size <= sizeLine
  rw [List.size_toArray]
  refine Nat.le_trans (List.length_filterMap_le _ _) ?_
  rw [List.length_range]; exact hsz
 unfold getItem
 try with_reducible refine wpAny_holding ?_
 first | refine wpAny_bind (wpAny_pure ?_) | skip
 refine wpAny_bind (wpAny_sequenceKey ht.typeIs (by decide) ?_)
 refine wpAny_bind (wpAny_callSpecial?_slot (name := Str.ofString "__getitem__") ht.typeIs PyProof.Rows.slot_tuple_getitem
  (wpAny_call_entry PyProof.Rows.slot_tuple_getitem ht.typeIs entry_tuple_getitem ?_ (args_tuple_getitem _ _)))
 show wpAny _ _ (Builtin.Tuple.tupleItemsOf (.ref t) >>= _) _ _ s
 refine wpAny_bind (tupleItemsOf_ ht ?_)
 refine wpAny_bind (wpAny_typeOf hTs ?_)
 rw [if_pos (by decide)]
 refine wpAny_bind (ha ?_)
 obtain ⟨r1, r2, r3⟩ := R
 show wpAny _ _ (if (r1 == 0 && r2 == 1 && r3 == items.size) = true then _ else _) _ _ s
 by_cases hb : (r1 == 0 && r2 == 1 && r3 == items.size) = true
 ·rw [if_pos hb]
  refine wpAny_bind (m := Builtin.Tuple.tupleIsExact (.ref t)) ?_
  refine wpAny_bind (wpAny_typeOf ht.typeIs (wpAny_pure ?_))
  rw [if_pos (by decide)]
  first
   | exact wpAny_bind (wpAny_pure (wpAny_pure ⟨_, rfl, wpAny_pure (h1 hb)⟩))
   | exact wpAny_bind (wpAny_rule (wpAny_pure ⟨_, rfl, wpAny_pure (h1 hb)⟩))
   | exact wpAny_bind (wpAny_rule (wpAny_bind (wpAny_pure (wpAny_pure ⟨_, rfl, wpAny_pure (h1 hb)⟩))))
   | exact wpAny_pure ⟨_, rfl, wpAny_pure (h1 hb)⟩
 ·rw [if_neg hb]
  have h := h2 hb
  first
   | exact wpAny_bind (m := Builtin.Tuple.tupleExact _) (wpAny_newObj_type (wpAny_pure ⟨_, rfl, wpAny_pure h⟩) htake)
   | exact wpAny_bind (m := Builtin.Tuple.tupleExact _) (wpAny_newObj_type (wpAny_bind (wpAny_pure (wpAny_pure ⟨_, rfl, wpAny_pure h⟩))) htake)
   | exact wpAny_bind (wpAny_bind (m := Builtin.Tuple.tupleExact _) (wpAny_newObj_type (wpAny_pure (wpAny_pure ⟨_, rfl, wpAny_pure h⟩)) htake))
   | exact wpAny_bind (wpAny_bind (m := Builtin.Tuple.tupleExact _) (wpAny_newObj_type (wpAny_pure ⟨_, rfl, wpAny_pure h⟩) htake))
end
end HT
namespace Pu
open PySem PySem.Spec PyProof.Rows L2
def part (o : Option Ex) (ρ : Pu.Env) (K : Option Int -> Prop) (X : XP) : Prop := match o with
 | none => K none
 | some e => e.run ρ (fun d => isI d fun i => K (some i)) X
theorem part_mono {o : Option Ex} {ρ : Pu.Env} {K K' : Option Int -> Prop} {X X' : XP} (m : ∀ i, K i -> K' i) (mx : ∀ x, X x -> X' x) (h : part o ρ K X) : part o ρ K' X' := by
 cases o with
 | none => exact m _ h
 | some e => exact e.mono ρ _ _ X X' (fun d q => isI_mono (fun i q => m _ q) q) mx h
def cutD (l : List D) (lo hi : Option Int) : List D := (l.drop (HT.sIx l.length 0 lo)).take (HT.sIx l.length l.length hi - HT.sIx l.length 0 lo)
def slcD (d : D) (lo hi : Option Int) (Q : DK) : Prop := match d with
 | .lst l => Q (.lst (cutD l lo hi))
 | .tup l => Q (.tup (cutD l lo hi))
 | .str x => x.length <= sizeLine /\ Q (.str (Txt.slice x lo hi))
 | _ => False
theorem slcD_mono {d : D} {lo hi : Option Int} {Q Q' : DK} (m : ∀ d, Q d -> Q' d) (h : slcD d lo hi Q) : slcD d lo hi Q' := by
 unfold slcD at h ⊢
 split at h
 ·exact m _ h
 ·exact m _ h
 ·exact ⟨h.1, m _ h.2⟩
 ·exact h.elim
def Ex.sl (e : Ex) (lo hi : Option Ex) : Ex := ⟨fun ρ Q X => e.run ρ (fun d => part lo ρ (fun l => part hi ρ (fun u => slcD d l u Q) X) X) X, fun ρ Q Q' X X' m mx q => e.mono ρ _ _ X X' (fun d q => part_mono (fun l q => part_mono (fun u q => slcD_mono m q) mx q) mx q) mx q⟩
def pickL (l : List D) (lo hi : Option Int) (st : Int) : List D := (sliceRange (sliceBounds lo hi (some st) l.length).1 (sliceBounds lo hi (some st) l.length).2.1 (sliceBounds lo hi (some st) l.length).2.2).filterMap (l[·]?)
def pickT (l : List D) (lo hi : Option Int) (st : Int) : List D :=
 (List.range (Builtin.Slice.slicePlaces (Builtin.Slice.sliceAdjust lo hi st l.length).1 (Builtin.Slice.sliceAdjust lo hi st l.length).2 st)).filterMap fun (k : Nat) => l[((Builtin.Slice.sliceAdjust lo hi st l.length).1 + (k : Int) * st).toNat]?
def slsD (d : D) (lo hi : Option Int) (st : Int) (Q : DK) : Prop := st ≠ 0 /\ match d with
 | .lst l => Q (.lst (pickL l lo hi st))
 | .tup l => st ≠ 1 /\ Builtin.Slice.slicePlaces (Builtin.Slice.sliceAdjust lo hi st l.length).1 (Builtin.Slice.sliceAdjust lo hi st l.length).2 st <= sizeLine /\ Q (.tup (pickT l lo hi st))
 | _ => False
theorem slsD_mono {d : D} {lo hi : Option Int} {st : Int} {Q Q' : DK} (m : ∀ d, Q d -> Q' d) (h : slsD d lo hi st Q) : slsD d lo hi st Q' := by
 refine ⟨h.1, ?_⟩
 have h2 := h.2
 split at h2
 ·exact m _ h2
 ·exact ⟨h2.1, h2.2.1, m _ h2.2.2⟩
 ·exact h2.elim
def Ex.sls (e : Ex) (lo hi : Option Ex) (st : Ex) : Ex := ⟨fun ρ Q X => e.run ρ (fun d => part lo ρ (fun l => part hi ρ (fun u => st.run ρ (fun k => isI k fun k => slsD d l u k Q) X) X) X) X, fun ρ Q Q' X X' m mx q => e.mono ρ _ _ X X' (fun d q => part_mono (fun l q => part_mono (fun u q => st.mono ρ _ _ X X' (fun k q => isI_mono (fun k q => slsD_mono m q) q) mx q) mx q) mx q) mx q⟩
def rSlP (K : PySem.W.Frag) (mg : Str -> Option Value) : V -> Option Int -> Option Int -> Hp -> VK -> Prop := fun x lo hi H Q => ∃ G d Q0, Same G H /\ RD K mg G d x /\ slcD d lo hi Q0 /\ Kt K mg G H Q0 Q
section
variable {X : Cx} {K : PySem.W.Frag} {mg : Str -> Option Value} {E : XK}
theorem sl_whole : SlR X (fun x lo hi H Q => ∃ a xs, x = .ref a /\ SqT X.K H a xs /\ (HT.sIx xs.length 0 lo = 0 /\ HT.sIx xs.length xs.length hi = xs.length) /\ Q (.ref a) H) := by
 intro pins s σ H x v vl vu lo hi sl Q I rx hs pl pu h
 obtain ⟨a, xs, rfl, hx, hw, q⟩ := h
 cases rx
 obtain ⟨its, r, ht, hz⟩ := I.tuple hx
 have hlen : its.toArray.size = xs.length := by rw [List.size_toArray]; exact r.length.symm
 refine ⟨"tuple", _, PyProof.Rows.slot_tuple_getitem.lookup, ht.typeIs, ?_⟩
 refine HT.tup_slice (R := (((HT.sIx its.toArray.size 0 lo : Nat) : Int), 1, HT.sIx its.toArray.size its.toArray.size hi - HT.sIx its.toArray.size 0 lo)) ht hs (fun h => HT.sliceApplied_gen hs pl pu h) ?_ (fun _ => ⟨.ref a, H, I, rfl, q⟩) (fun z => ?_)
 ·rw [hlen]; dsimp only; rw [hw.1, hw.2]; omega
 ·rw [hlen] at z
  exact absurd (by dsimp only; rw [hw.1, hw.2]; simp) z
theorem cutV_whole {xs : List D} {lo hi : Option Int} (h : HT.sIx xs.length 0 lo = 0 /\ HT.sIx xs.length xs.length hi = xs.length) : cutD xs lo hi = xs := by
 unfold cutD
 rw [h.1, h.2]
 simp
theorem sl_p : SlR X (rSlP X.K X.mg) := ((sl_list.or (sl_tup.or sl_whole)).or sl_str).imp fun x lo hi H Q ⟨G, d, Q0, g, rd, hr, hk⟩ => by
 unfold slcD at hr
 split at hr
 ·obtain ⟨a, xs, rfl, h1, h2⟩ := rd_lst rd
  exact .inl (.inl ⟨a, xs, rfl, same_L g h1, fun p hp => hk.new g hp hr (RD.newL (h2.cut lo hi) g hp)⟩)
 ·obtain ⟨a, xs, rfl, h1, h2⟩ := rd_tup rd
  by_cases hw : HT.sIx xs.length 0 lo = 0 /\ HT.sIx xs.length xs.length hi = xs.length
  ·refine .inl (.inr (.inr ⟨a, xs, rfl, same_T g h1, hw, hk.now g hr ?_⟩))
   rw [h2.len] at hw
   rw [cutV_whole hw]
   exact RD.ofT h1 h2
  ·exact .inl (.inr (.inl ⟨a, xs, rfl, same_T g h1, hw, fun p hp => hk.new g hp hr (RD.newT (h2.cut lo hi) g hp)⟩))
 ·exact .inr ⟨_, rd_str rd, hr.1, hk.now g hr.2 RD.str'⟩
 ·exact hr.elim
def tpart (K : PySem.W.Frag) (mg : Str -> Option Value) (E : XK) (o : Option Ex) : TO := fun σ H Q => ∃ G ρ Q0 X0, Same G H /\ AbE K mg G ρ σ /\ part o ρ Q0 X0 /\ (∀ i G' H', Q0 i -> Gr G H G' -> Same G' H' -> Same H H' -> Q i H') /\ Kx mg H X0 E
theorem QO.imp {e : Option Expr} {t t' : TO} (h : QO X e t) (i : ∀ σ H Q, t' σ H Q -> t σ H Q) : QO X e t' := ⟨fun pins s σ H Q I q => h.p pins s σ H Q I (i σ H Q q)⟩
theorem qp_none : QO X none (tpart X.K X.mg E none) := QO.imp qo_none fun σ H Q ⟨G, ρ, Q0, X0, hs, ab, hr, hk, hx⟩ => hk none G H hr Gr.refl hs Same.refl'
theorem qp_some {e : Expr} {x : Ex} (h : QX X E e x) : QO X (some e) (tpart X.K X.mg E (some x)) := QO.imp (qo_some h) fun σ H Q ⟨G, ρ, Q0, X0, hs, ab, hr, hk, hx⟩ => by
 refine ⟨G, ρ, _, X0, hs, ab, hr, fun d v G1 H1 q g1 g2 g3 rd => ?_, hx⟩
 obtain ⟨i, rfl, q⟩ := isI_some q
 exact ⟨i, rd_int rd, hk (some i) G1 H1 q g1 g2 g3⟩
theorem tx_sl {σ : L2.St} {H : Hp} {Q : VK} {e : Ex} {lo hi : Option Ex} (h : tx K mg E (.sl e lo hi) σ H Q) : tSl (rSlP K mg) (tx K mg E e) (tpart K mg E lo) (tpart K mg E hi) σ H Q := by
 obtain ⟨G, ρ, Q0, X0, hs, ab, hr, hk, hx⟩ := h
 refine ⟨G, ρ, _, X0, hs, ab, hr, fun d v G1 H1 q g1 g2 g3 rd => ?_, hx⟩
 refine ⟨G1, ρ, _, X0, g2, ab.same g1.1, q, fun l G2 H2 q k1 k2 k3 => ?_, hx.same g3⟩
 refine ⟨G2, ρ, _, X0, k2, ab.same (same_t g1.1 k1.1), q, fun u G3 H3 q n1 n2 n3 => ?_, hx.same (same_t g3 k3)⟩
 exact ⟨G3, d, Q0, n2, rd.same (same_t k1.1 n1.1), q, hk.same (g1.trans g3 (k1.trans k3 n1)) (same_t g3 (same_t k3 n3))⟩
theorem qx_sl {e : Expr} {x : Ex} {lo hi : Option Expr} {l u : Option Ex} {p2 pos : Pos} (he : QX X E e x) (hl : QO X lo (tpart X.K X.mg E l)) (hu : QO X hi (tpart X.K X.mg E u)) : QX X E (.Subscript e (.Slice lo hi none p2) pos) (.sl x l u) := QE.imp (qe_slice sl_p he hl hu) fun _ _ _ h => tx_sl h
end
end Pu
set_option Elab.async false
set_option linter.all false
set_option maxRecDepth 100000
set_option maxHeartbeats 4000000
namespace Pu
open PySem PySem.Spec PyProof.Rows L2
section
variable {X : Cx} {K : PySem.W.Frag} {mg : Str -> Option Value} {E : XK}
def isiD (T : String) : D -> Option Bool
 | .int _ => some (T == "int")
 | .bl _ => some (T == "int" || T == "bool")
 | .str _ => some (T == "str")
 | .tup _ => some (T == "tuple")
 | .lst _ => some (T == "list")
 | .non => some false
 | _ => none
def onB (o : Option Bool) (Q : Bool -> Prop) : Prop := match o with
 | some b => Q b
 | none => False
theorem onB_mono {o : Option Bool} {Q Q' : Bool -> Prop} (m : ∀ b, Q b -> Q' b) (h : onB o Q) : onB o Q' := by
 cases o with
 | none => exact h
 | some b => exact m _ h
theorem onB_some {o : Option Bool} {Q : Bool -> Prop} (h : onB o Q) : ∃ b, o = some b /\ Q b := by
 cases o with
 | none => exact h.elim
 | some b => exact ⟨b, rfl, h⟩
def pIsi (T : String) : Fn := fn1 (fun d Q => onB (isiD T d) fun b => Q (.bl b)) fun d Q Q' m h => onB_mono (fun b q => m _ q) h
def kinds : List String := ["int", "bool", "str", "tuple", "list"]
theorem kit_tab {T : String} (hT : T ∈ kinds) : PySem.W.kitOne K (.type "int") (.type T) = some (T == "int") /\ PySem.W.kitOne K (.type "bool") (.type T) = some (T == "int" || T == "bool") /\ PySem.W.kitOne K (.type "str") (.type T) = some (T == "str") /\
  PySem.W.kitOne K (.type "tuple") (.type T) = some (T == "tuple") /\ PySem.W.kitOne K (.type "list") (.type T) = some (T == "list") /\ PySem.W.kitOne K (.type "NoneType") (.type T) = some false := by
 unfold kinds at hT
 simp only [List.mem_cons, List.not_mem_nil, or_false] at hT
 rcases hT with rfl | rfl | rfl | rfl | rfl <;> exact ⟨rfl, rfl, rfl, rfl, rfl, rfl⟩
def rIsiP (K : PySem.W.Frag) (mg : Str -> Option Value) (T : String) : List V -> Hp -> VK -> Prop := fun vs H Q => ∃ v G d Q0, vs = [v, .ty T] /\ Same G H /\ RD K mg G d v /\ (onB (isiD T d) fun b => Q0 (.bl b)) /\ Kt K mg G H Q0 Q
theorem cb_isi {T : String} (hT : T ∈ kinds) : CallR X (.builtin "isinstance") (rIsiP X.K X.mg T) := by
 intro pins s σ H vs us Q I rv ⟨v, G, d, Q0, e, g, rd, hr, hk⟩
 subst e
 obtain ⟨b, eb, q⟩ := onB_some hr
 obtain ⟨u, w, rfl, ru, rw'⟩ := vals2 rv
 cases (show w = Value.type T from rw')
 obtain ⟨t1, t2, t3, t4, t5, t6⟩ := kit_tab (K := X.K) hT
 have fin : ∀ tk, EP X pins σ Q (.bool b) { s with toks := tk } := fun tk => ⟨.bl b, H, I.tok tk, rfl, hk.now g q RD.bl'⟩
 cases d with
 | int i =>
  have e := rd_int rd; subst e
  rw [show isiD T (.int i) = some (T == "int") from rfl] at eb
  exact isinst_ok I ru (.int i) (t1.trans eb) fin
 | bl i =>
  have e := rd_bl rd; subst e
  rw [show isiD T (.bl i) = some (T == "int" || T == "bool") from rfl] at eb
  exact isinst_ok I ru (.bl i) (t2.trans eb) fin
 | str i =>
  have e := rd_str rd; subst e
  rw [show isiD T (.str i) = some (T == "str") from rfl] at eb
  exact isinst_ok I ru (.str i) (t3.trans eb) fin
 | non =>
  have e := rd_non rd; subst e
  rw [show isiD T .non = some false from rfl] at eb
  exact isinst_ok I ru .non (t6.trans eb) fin
 | tup l =>
  obtain ⟨a, xs, rfl, h1, h2⟩ := rd_tup rd
  cases ru
  rw [show isiD T (.tup l) = some (T == "tuple") from rfl] at eb
  obtain ⟨its, r, ⟨o, ho, hc, _⟩, _⟩ := I.tuple (same_T g h1)
  exact PySem.W.kia_one PySem.W.kitx_tuple I.kIn ⟨o, ho, hc⟩ (t4.trans eb) (fun z => nomatch z) fin
 | lst l =>
  obtain ⟨a, xs, rfl, h1, h2⟩ := rd_lst rd
  cases ru
  rw [show isiD T (.lst l) = some (T == "list") from rfl] at eb
  obtain ⟨its, r, ⟨o, n, ho, hc, _⟩, _⟩ := I.list (same_L g h1)
  exact PySem.W.kia_one PySem.W.kitx_list I.kIn ⟨o, ho, hc⟩ (t5.trans eb) (fun z => nomatch z) fin
 | _ => cases eb
theorem qx_isi {e t : Expr} {x : Ex} {pp pos : Pos} {T : String} (hT : T ∈ kinds) (hg : Gl X "isinstance") (hm : X.mg "isinstance" = none) (he : QX X E e x) (ht : QE X t (tC (.ty T)))
  (hs1 : starEach [e, t] X.env = (false, eval e X.env) :: starEach [t] X.env := by rfl) (hs2 : starEach [t] X.env = (false, eval t X.env) :: starEach [] X.env := by rfl) (hpl : (backTo pos (starEach [t] X.env)).any (·.1) = false := by rfl)
  (hv : bootBuiltins "isinstance" = some (.builtin "isinstance") := by rfl) (hn : ("isinstance" : Str) ≠ "__name__" := by decide) (hdb : (("isinstance" : Str) == ("__debug__" : Str)) = false := by decide) : QX X E (.Call (.Name "isinstance" pp) [e, t] [] pos) (.op (pIsi T) [x]) :=
 QE.imp (qe_callB (cb_isi hT) hg hm hv (qa_cons he (qa_cons ht qa_nil hs2) hs1) hn hdb hs1 hpl) fun σ H Q ⟨G, ρ, Q0, X0, hs, ab, hr, hk, hx⟩ => by
  refine ⟨G, ρ, _, X0, hs, ab, hr, fun d v G1 H1 q g1 g2 g3 rd => ?_, hx⟩
  exact ⟨v, G1, d, Q0, rfl, g2, rd, q, hk.same g1 g3⟩
theorem fnI_some {g : Int -> Int -> DK -> Prop} {hg} {ds : List D} {Q : DK} {Xp : XP} (h : (fnI g hg).run ds Q Xp) : ∃ i j, ds = [.int i, .int j] /\ g i j Q := by
 obtain ⟨d, e, rfl, h'⟩ := fn2_some (m := gI_mono hg) h
 obtain ⟨i, j, rfl, rfl, q⟩ := gI_some h'
 exact ⟨i, j, rfl, q⟩
def pMax2 : Fn := fnI (fun i j Q => Q (.int (if j > i then j else i))) fun _ _ _ _ m h => m _ h
def pMin2 : Fn := fnI (fun i j Q => Q (.int (if j < i then j else i))) fun _ _ _ _ m h => m _ h
theorem cb_max2 (hc : X.calm = true) : CallR X (.builtin "max") (rN X.K X.mg pMax2) := (call_max2 hc).imp fun vs H Q ⟨G, ds, Q0, X0, g, rds, hr, hk⟩ => by
 obtain ⟨i, j, rfl, q⟩ := fnI_some hr
 obtain ⟨v, w, rfl, r1, r2⟩ := rds2 rds
 exact ⟨i, j, by rw [rd_int r1, rd_int r2], hk.now g q RD.int'⟩
theorem cb_min2 (hc : X.calm = true) : CallR X (.builtin "min") (rN X.K X.mg pMin2) := (call_min2 hc).imp fun vs H Q ⟨G, ds, Q0, X0, g, rds, hr, hk⟩ => by
 obtain ⟨i, j, rfl, q⟩ := fnI_some hr
 obtain ⟨v, w, rfl, r1, r2⟩ := rds2 rds
 exact ⟨i, j, by rw [rd_int r1, rd_int r2], hk.now g q RD.int'⟩
end
end Pu
namespace Pu
open PySem PySem.Spec PyProof.Rows L2
def GlS (sc : Scope) (x : Str) : Prop := sc.names.lookup x = some .globalImplicit
structure Nm (sc : Scope) (x : Str) : Prop where
 loc : Loc sc x
 hd : (x == ("__debug__" : Str)) = false
 hcd : (x == ("__classdict__" : Str)) = false
theorem Nm.vis {sc : Scope} {x : Str} (h : Nm sc x) : Vis sc x := h.loc.elim .inl fun z => .inr (.inl z)
section
variable {CX : CXT} {P : Program} {w : World} {K : PySem.W.Frag} {mg : Str -> Option Value} {base : Heap} {N : List Str} {qual : Str} {sc : Scope} {f : Addr} {cdv : Value} {A : Around} {outer : List PySem.Env} {s : Shared} {H : Hp} {E : XK} {xe : Value -> Shared -> Prop} {x : Str} {pos pos2 : Pos} {e : Expr} {te : TE}
theorem vg (i : Nat) (h : Nm sc x) (hN : N[i]? = some x := by rfl) : QE ((cxOf CX P w K mg base N qual sc f cdv A outer s H E).wish xe) (.Name x pos) (tVar i) := ⟨pe_var hN h.vis h.hd h.hcd⟩
theorem ng (i : Nat) (nd : N.Nodup) (h : Nm sc x) (hN : N[i]? = some x := by rfl) : QG ((cxOf CX P w K mg base N qual sc f cdv A outer s H E).wish xe) (.Name x pos) (gName i) := ⟨pg_name nd hN h.loc (.inl rfl)⟩
theorem ag (i : Nat) (nd : N.Nodup) (h : Nm sc x) (he : QE ((cxOf CX P w K mg base N qual sc f cdv A outer s H E).wish xe) e te) (hN : N[i]? = some x := by rfl) (hs : swapsWith e (some (.Name x pos2)) pos.line ((cxOf CX P w K mg base N qual sc f cdv A outer s H E).wish xe).env = pure false := by rfl) : QS ((cxOf CX P w K mg base N qual sc f cdv A outer s H E).wish xe) (.Assign [.Name x pos2] e pos) (tAsg te (gName i)) := ⟨ps_set nd hN h.loc he.p hs (.inl rfl)⟩
theorem glg (h : GlS sc x) : Gl ((cxOf CX P w K mg base N qual sc f cdv A outer s H E).wish xe) x := h
end
def spL (K : PySem.W.Frag) : Sp := fun vs H Q _ => ∃ (a : Addr) (ns : List Int), vs = [.ref a] /\ SqL K H a (ns.map V.int) /\ ns.length <= 63 /\ ∀ H', Q (.bl true) H'
theorem law_of {P : Program} {w : World} {K : PySem.W.Frag} {mg : Str -> Option Value} {base : Heap} {CX : CXT} {k : Nat} {f : Addr} {fd : FuncData} {ps : List Str} {F : Fn} (h : ∀ ns : List Int, ns.length <= 63 -> F.run [.lst (ns.map .int)] (fun d => d = .bl true) (fun _ => False)) (ok : FnOk P w K mg base CX k f fd ps (spP K mg F)) : FnOk P w K mg base CX k f fd ps (spL K) :=
 ok.imp fun vs H Q E ⟨a, ns, e, hS, hl, q⟩ => ⟨H, [.lst (ns.map .int)], _, _, Same.refl', by rw [e]; exact RDs.cons (RD.ofL hS (ints_rds ns)) RDs.nil, h ns hl, fun d v G' H' e g1 g2 g3 rd => by
  subst e
  rw [rd_bl rd]
  exact q H', Kx.no⟩
end Pu
set_option Elab.async false
set_option linter.all false
set_option maxRecDepth 100000
set_option maxHeartbeats 4000000
namespace Pu
open PySem L2
open Builtin.Int (intBits)
section
variable {ρ : Pu.Env} {Q : DK} {X : XP} {N : Pu.Env -> Prop} {a b c e : Ex} {s t : Sm} {F : Fn} {d : D} {i j : Nat}
theorem o_some {d : D} (q : Q d) : onV (some d) Q := q
theorem e_c (q : Q d) : (Ex.c d).run ρ Q X := q
theorem e_v (q : onV (ρ.get i) Q) : (Ex.v i).run ρ Q X := q
theorem e_op1 (q : a.run ρ (fun x => F.run [x] Q X) X) : (Ex.op F [a]).run ρ Q X := q
theorem e_op2 (q : a.run ρ (fun x => b.run ρ (fun y => F.run [x, y] Q X) X) X) : (Ex.op F [a, b]).run ρ Q X := q
theorem e_op3 (q : a.run ρ (fun x => b.run ρ (fun y => c.run ρ (fun z => F.run [x, y, z] Q X) X) X) X) : (Ex.op F [a, b, c]).run ρ Q X := q
theorem e_op4 (q : a.run ρ (fun x => b.run ρ (fun y => c.run ρ (fun z => e.run ρ (fun u => F.run [x, y, z, u] Q X) X) X) X) X) : (Ex.op F [a, b, c, e]).run ρ Q X := q
theorem e_opN {es : List Ex} (q : runs es ρ (fun ds => F.run ds Q X) X) : (Ex.op F es).run ρ Q X := q
theorem rn_nil {Q : List D -> Prop} (q : Q []) : runs [] ρ Q X := q
theorem rn_cons {es : List Ex} {Q : List D -> Prop} (q : a.run ρ (fun d => runs es ρ (fun ds => Q (d :: ds)) X) X) : runs (a :: es) ρ Q X := q
theorem e_and (q : a.run ρ (fun d => tst d (b.run ρ Q X) (Q (.bl false))) X) : (Ex.and a b).run ρ Q X := q
theorem e_or (q : a.run ρ (fun d => tst d (Q (.bl true)) (b.run ρ Q X)) X) : (Ex.or a b).run ρ Q X := q
def notD (d : D) (Q : DK) : Prop := match d with
 | .bl b => Q (.bl (!b))
 | _ => False
theorem e_not (q : a.run ρ (fun d => notD d Q) X) : (Ex.not a).run ρ Q X := q
theorem n_bl {k : Bool} (q : Q (.bl (!k))) : notD (.bl k) Q := q
theorem e_ifx (q : c.run ρ (fun d => tst d (a.run ρ Q X) (b.run ρ Q X)) X) : (Ex.ifx c a b).run ρ Q X := q
theorem e_comp {nt : Nat} {js : List Nat} {tg : Tg} {src : Ex} {ct : Option Ex} {elt : Ex} (q : src.run ρ (fun d => onL (items d) fun l => l.length < sizeLine /\ compL (compF tg ct elt (compEnv nt js ρ)) l fun r => Q (.lst r)) X) : (Ex.comp nt js tg src ct elt).run ρ Q X := q
theorem i_lst {l : List D} {K : List D -> Prop} (q : K l) : onL (items (.lst l)) K := q
theorem i_tup {l : List D} {K : List D -> Prop} (q : K l) : onL (items (.tup l)) K := q
theorem e_sl {lo hi : Option Ex} (q : a.run ρ (fun d => part lo ρ (fun l => part hi ρ (fun u => slcD d l u Q) X) X) X) : (Ex.sl a lo hi).run ρ Q X := q
theorem e_sls {lo hi : Option Ex} (q : a.run ρ (fun d => part lo ρ (fun l => part hi ρ (fun u => b.run ρ (fun k => isI k fun k => slsD d l u k Q) X) X) X) X) : (Ex.sls a lo hi b).run ρ Q X := q
theorem p_none {K : Option Int -> Prop} (q : K none) : part none ρ K X := q
theorem p_some {K : Option Int -> Prop} (q : a.run ρ (fun d => isI d fun i => K (some i)) X) : part (some a) ρ K X := q
theorem is_int {k : Int} {K : Int -> Prop} (q : K k) : isI (.int k) K := q
theorem c_lst {l : List D} {lo hi : Option Int} (q : Q (.lst (cutD l lo hi))) : slcD (.lst l) lo hi Q := q
theorem c_tup {l : List D} {lo hi : Option Int} (q : Q (.tup (cutD l lo hi))) : slcD (.tup l) lo hi Q := q
theorem t_true {A B : Prop} (h : A) : tst (.bl true) A B := ⟨fun _ => h, (fun z => by cases z)⟩
theorem t_false {A B : Prop} (h : B) : tst (.bl false) A B := ⟨(fun z => by cases z), fun _ => h⟩
theorem sf_and {d : D} {ρ : Pu.Env} {B : Prop} (h : Safe d ρ) (q : B) : Safe d ρ /\ B := ⟨h, q⟩
theorem sfi_and {d : D} {ρ : Pu.Env} {B : Prop} (h : SafeI d ρ) (q : B) : SafeI d ρ /\ B := ⟨h, q⟩
theorem t_dec {p : Prop} [Decidable p] {A B : Prop} (h : p -> A) (h' : ¬ p -> B) : tst (.bl (decide p)) A B := ⟨fun e => h (of_decide_eq_true e), fun e => h' (of_decide_eq_false e)⟩
theorem t_yes {p : Prop} [Decidable p] {A B : Prop} (hp : p) (h : A) : tst (.bl (decide p)) A B := t_dec (fun _ => h) fun n => (n hp).elim
theorem t_no {p : Prop} [Decidable p] {A B : Prop} (hp : ¬ p) (h : B) : tst (.bl (decide p)) A B := t_dec (fun y => (hp y).elim) fun _ => h
theorem t_not {k : Bool} {A B : Prop} (h : tst (.bl k) B A) : tst (.bl (!k)) A B := by
 cases k
 ·exact t_true (h.2 rfl)
 ·exact t_false (h.1 rfl)
theorem t_eqT {k : Bool} {A B : Prop} (e : k = true) (h : A) : tst (.bl k) A B := by rw [e]; exact t_true h
theorem t_eqF {k : Bool} {A B : Prop} (e : k = false) (h : B) : tst (.bl k) A B := by rw [e]; exact t_false h
theorem s_skip (q : N ρ) : Sm.skip.run ρ N Q X := q
theorem s_seq (q : s.run ρ (fun ρ' => t.run ρ' N Q X) Q X) : (Sm.seq s t).run ρ N Q X := q
theorem s_set (q : a.run ρ (fun d => Safe d (ρ.set i .n) /\ N (ρ.set i (.s d))) X) : (Sm.set i a).run ρ N Q X := q
theorem s_own (q : a.run ρ (fun d => SafeI d (ρ.set i .n) /\ N (ρ.set i (.o d))) X) : (Sm.own i a).run ρ N Q X := q
theorem s_setx {js : List Nat} (q : a.run (vis (dem js ρ)) (fun d => N ((dem js ρ).set i (.s d))) X) : (Sm.setx js i a).run ρ N Q X := q
theorem s_if (q : c.run ρ (fun d => tst d (s.run ρ N Q X) (t.run ρ N Q X)) X) : (Sm.ifs c s t).run ρ N Q X := q
theorem s_ret (q : a.run ρ Q X) : (Sm.ret a).run ρ N Q X := q
theorem s_retN (q : Q .non) : Sm.retN.run ρ N Q X := q
theorem s_ex (q : a.run ρ (fun _ => N ρ) X) : (Sm.ex a).run ρ N Q X := q
theorem s_raise {x : Str} (q : X x) : (Sm.raise x).run ρ N Q X := q
theorem s_calm (q : s.run ρ N Q (fun _ => False)) : (Sm.calm s).run ρ N Q X := q
theorem s_for {js : List Nat} {tg : Tg} (q : a.run (vis (dem js ρ)) (fun d => onL (items d) fun l => forL tg s N Q X l (dem js ρ)) X) : (Sm.for_ js tg a s).run ρ N Q X := q
theorem s_forr1 {tg : Tg} (q : a.run ρ (fun d => onR [d] fun l => forL tg s N Q X l ρ) X) : (Sm.forr [a] tg s).run ρ N Q X := q
theorem s_forr2 {tg : Tg} (q : a.run ρ (fun d => b.run ρ (fun d' => onR [d, d'] fun l => forL tg s N Q X l ρ) X) X) : (Sm.forr [a, b] tg s).run ρ N Q X := q
theorem s_app {l : List D} (h : ownL ρ i fun l => a.run ρ (fun d => l.length < sizeLine /\ Safe d ρ /\ N (ρ.set i (.o (.lst (l ++ [d]))))) X) : (Sm.app i a).run ρ N Q X := h
theorem r_fnN {np nn : Nat} {ds : List D} (h : ds.length = np) (q : s.run (ds.map B.s ++ List.replicate (nn - np) .n) (fun _ => Q .non) Q (fun _ => False)) : (Fn.mkN np nn s).run ds Q X := ⟨h, q⟩
theorem r_fnE {np nn : Nat} {ds : List D} (h : ds.length = np) (q : s.run (ds.map B.s ++ List.replicate (nn - np) .n) (fun _ => Q .non) Q X) : (Fn.mk' np nn s).run ds Q X := ⟨h, q⟩
theorem t_cut (W : Pu.Env -> Prop) (h : tst d (s.run ρ W Q X) (t.run ρ W Q X)) (k : ∀ ρ', W ρ' -> N ρ') : tst d (s.run ρ N Q X) (t.run ρ N Q X) := tst_mono (s.mono ρ W N Q Q X X k (fun _ z => z) (fun _ z => z)) (t.mono ρ W N Q Q X X k (fun _ z => z) (fun _ z => z)) h
theorem forL_inv {α : Type} {f : α -> D} {tg : Tg} {l : List α} (I : List α -> Pu.Env -> Prop) (h0 : I [] ρ) (hs : ∀ (dn : List α) (x : α) (r : List α) (ρ : Pu.Env), l = dn ++ x :: r -> I dn ρ -> tg.put (f x) ρ fun ρ' => s.run ρ' (fun ρ'' => I (dn ++ [x]) ρ'') Q X) (hd : ∀ ρ, I l ρ -> N ρ) : forL tg s N Q X (l.map f) ρ := by
 have main : ∀ (r dn : List α) (ρ : Pu.Env), l = dn ++ r -> I dn ρ -> forL tg s N Q X (r.map f) ρ := by
  intro r
  induction r with
  | nil =>
   intro dn ρ e h
   rw [List.append_nil] at e
   subst e
   exact hd ρ h
  | cons x r ih =>
   intro dn ρ e h
   rw [List.map_cons]
   exact Tg.put_mono (fun ρ' q => s.mono ρ' _ _ Q Q X X (fun ρ'' q => ih (dn ++ [x]) ρ'' (by rw [e]; simp) q) (fun _ z => z) (fun _ z => z) q) (hs dn x r ρ e h)
 exact main l [] ρ rfl h0
theorem wh_inv (I : Pu.Env -> Prop) (μ : Pu.Env -> Nat) (h0 : I ρ) (hs : ∀ ρ, I ρ -> c.run ρ (fun d => tst d (s.run ρ (fun ρ' => I ρ' /\ μ ρ' < μ ρ) Q X) (N ρ)) X) : (Sm.wh c s).run ρ N Q X := by
 have main : ∀ (n : Nat) (ρ : Pu.Env), I ρ -> μ ρ < n -> wh c s N Q X n ρ := by
  intro n
  induction n with
  | zero => intro ρ _ h; exact absurd h (Nat.not_lt_zero _)
  | succ n ih =>
   intro ρ hI hm
   exact c.mono ρ _ _ X X (fun d q => tst_mono (s.mono ρ _ _ Q Q X X (fun ρ' q => ih ρ' q.1 (by lia)) (fun _ z => z) (fun _ z => z)) (fun z => z) q) (fun _ z => z) (hs ρ hI)
 exact ⟨μ ρ + 1, main _ ρ h0 (Nat.lt_succ_self _)⟩
theorem compL_map {α : Type} {f g : α -> D} {G : D -> (Option D -> Prop) -> Prop} {M : List D -> Prop} : ∀ {l : List α}, (∀ x ∈ l, ∀ K : Option D -> Prop, K (some (g x)) -> G (f x) K) -> M (l.map g) -> compL G (l.map f) M
 | [], _, q => q
 | x :: r, h, q => h x List.mem_cons_self _ (compL_map (l := r) (fun y hy => h y (List.mem_cons_of_mem _ hy)) q)
theorem compL_all {α β : Type} {f : α -> D} {g : β -> D} {P : α -> β -> Prop} {G : D -> (Option D -> Prop) -> Prop} : ∀ {l : List α} {M : List D -> Prop}, (∀ x ∈ l, ∀ K : Option D -> Prop, (∀ y, P x y -> K (some (g y))) -> G (f x) K) -> (∀ ys : List β, ys.length = l.length -> (∀ y ∈ ys, ∃ x ∈ l, P x y) -> M (ys.map g)) -> compL G (l.map f) M
 | [], _, _, q => q [] rfl (fun _ z => by simp at z)
 | x :: r, M, h, q => h x List.mem_cons_self _ fun y hy => compL_all (l := r) (M := fun t => M ((some (g y)).toList ++ t)) (fun z hz => h z (List.mem_cons_of_mem _ hz)) fun ys hl ha => q (y :: ys) (by simp [hl]) fun z hz => by
  rcases List.mem_cons.mp hz with rfl | hz
  ·exact ⟨x, List.mem_cons_self, hy⟩
  ·obtain ⟨w, hw, hp⟩ := ha z hz
   exact ⟨w, List.mem_cons_of_mem _ hw, hp⟩
theorem cf_nm {k : Nat} {elt : Ex} {x : D} {K : Option D -> Prop} (q : elt.run (ρ.set k (.s x)) (fun d => K (some d)) (fun _ => False)) : compF (.nm k) none elt ρ x K := q
theorem cf_nmc {k : Nat} {elt : Ex} {x : D} {K : Option D -> Prop} (q : c.run (ρ.set k (.s x)) (fun b => tst b (elt.run (ρ.set k (.s x)) (fun d => K (some d)) (fun _ => False)) (K none)) (fun _ => False)) : compF (.nm k) (some c) elt ρ x K := q
variable {m n : Int}
theorem o_add (q : Q (.int (m + n))) : pAdd.run [.int m, .int n] Q X := q
theorem o_sub (q : Q (.int (m - n))) : pSub.run [.int m, .int n] Q X := q
theorem o_mul (h : CMulB m n) (q : Q (.int (m * n))) : pMulI.run [.int m, .int n] Q X := ⟨h, q⟩
theorem o_neg (q : Q (.int (-m))) : pNeg.run [.int m] Q X := q
theorem o_divP (h : 0 < n) (hb : Bt 9000 n) (q : Q (.int (m / n))) : pFdiv.run [.int m, .int n] Q X := ⟨⟨by lia, hb⟩, by rw [Int.fdiv_eq_ediv_of_nonneg m (by lia)]; exact q⟩
theorem o_modP (h : 0 < n) (q : Q (.int (m % n))) : pMod.run [.int m, .int n] Q X := ⟨by lia, by rw [Int.fmod_eq_emod_of_nonneg m (by lia)]; exact q⟩
theorem o_pow (h : CPow m n) (q : Q (.int (m ^ n.toNat))) : pPow.run [.int m, .int n] Q X := ⟨h, q⟩
theorem o_lt (q : Q (.bl (decide (m < n)))) : pLt.run [.int m, .int n] Q X := q
theorem o_le (q : Q (.bl (decide (m <= n)))) : pLe.run [.int m, .int n] Q X := q
theorem o_gt (q : Q (.bl (decide (n < m)))) : pGt.run [.int m, .int n] Q X := q
theorem o_ge (q : Q (.bl (decide (n <= m)))) : pGeI.run [.int m, .int n] Q X := q
theorem o_eq (q : Q (.bl (decide (m = n)))) : pEq.run [.int m, .int n] Q X := q
theorem o_ne (q : Q (.bl (!decide (m = n)))) : pNe.run [.int m, .int n] Q X := q
theorem o_is (q : Q (.bl (isN d))) : pIs.run [d, .non] Q X := q
theorem o_isnot (q : Q (.bl (!isN d))) : pIsNot.run [d, .non] Q X := q
theorem o_lenL {l : List D} (q : Q (.int (l.length : Int))) : pLen.run [.lst l] Q X := q
theorem o_lenT {l : List D} (q : Q (.int (l.length : Int))) : pLen.run [.tup l] Q X := q
theorem o_ixL {l : List D} (q : onV (atI l m) Q) : pIx.run [.lst l, .int m] Q X := q
theorem o_ixT {l : List D} (q : onV (atI l m) Q) : pIx.run [.tup l, .int m] Q X := q
theorem o_tup {ds : List D} (h : ds.length <= sizeLine) (q : Q (.tup ds)) : pTup.run ds Q X := ⟨h, q⟩
theorem o_lst {ds : List D} (h : ds.length <= sizeLine) (q : Q (.lst ds)) : pLst.run ds Q X := ⟨h, q⟩
theorem o_tupL {l : List D} (q : Q (.tup l)) : pTupOf.run [.lst l] Q X := q
theorem o_tupT {l : List D} (q : Q (.tup l)) : pTupOf.run [.tup l] Q X := q
theorem o_lstL {l : List D} (q : Q (.lst l)) : pLstOf.run [.lst l] Q X := q
theorem o_lstT {l : List D} (q : Q (.lst l)) : pLstOf.run [.tup l] Q X := q
theorem o_abs (q : Q (.int (if m < 0 then -m else m))) : pAbs.run [.int m] Q X := q
theorem o_intI (q : Q (.int m)) : pInt.run [.int m] Q X := q
theorem o_intB {k : Bool} (q : Q (.int (if k then 1 else 0))) : pInt.run [.bl k] Q X := q
theorem o_isiI {T : String} (q : Q (.bl (T == "int"))) : (pIsi T).run [.int m] Q X := q
theorem o_isiB {T : String} {k : Bool} (q : Q (.bl (T == "int" || T == "bool"))) : (pIsi T).run [.bl k] Q X := q
theorem o_isiT {T : String} {l : List D} (q : Q (.bl (T == "tuple"))) : (pIsi T).run [.tup l] Q X := q
theorem o_isiL {T : String} {l : List D} (q : Q (.bl (T == "list"))) : (pIsi T).run [.lst l] Q X := q
theorem o_isiS {T : String} {x : Str} (q : Q (.bl (T == "str"))) : (pIsi T).run [.str x] Q X := q
theorem o_isiN {T : String} (q : Q (.bl false)) : (pIsi T).run [.non] Q X := q
theorem o_max2 (q : Q (.int (if n > m then n else m))) : pMax2.run [.int m, .int n] Q X := q
theorem o_min2 (q : Q (.int (if n < m then n else m))) : pMin2.run [.int m, .int n] Q X := q
theorem o_sum {ns : List Int} (q : Q (.int ns.sum)) : pSum.run [.lst (ns.map D.int)] Q X := by
 show onI (ints? (ns.map D.int)) fun ns => Q (.int ns.sum)
 rw [ints_map]
 exact q
theorem o_addL {l r : List D} (h : l.length + r.length <= sizeLine) (q : Q (.lst (l ++ r))) : pAdd.run [.lst l, .lst r] Q X := ⟨h, q⟩
end
theorem Safe.of_noL {d : D} (h1 : noL d = true) (h2 : noD d = true) : ∀ ρ : Pu.Env, Safe d ρ
 | [] => trivial
 | .n :: r => ⟨trivial, Safe.of_noL h1 h2 r⟩
 | .s _ :: r => ⟨trivial, Safe.of_noL h1 h2 r⟩
 | .o x :: r => ⟨by cases x <;> first | exact h1 | exact h2 | trivial, Safe.of_noL h1 h2 r⟩
theorem own_some {ρ : Pu.Env} {i : Nat} {l : List D} {K : List D -> Prop} (h : ρ[i]? = some (B.o (.lst l))) (q : K l) : ownL ρ i K := by unfold ownL; rw [h]; exact q
theorem r_rng1 {k : Int} {K : List D -> Prop} (h : -(2 ^ 62) <= k) (h' : k < 2 ^ 62) (q : K ((List.range k.toNat).map fun (j : Nat) => D.int (j : Int))) : onR [.int k] K := ⟨⟨h, h'⟩, q⟩
theorem ix_ok {l : List D} {k : Int} {d : D} {Q : DK} (e : atI l k = some d) (q : Q d) : onV (atI l k) Q := by rw [e]; exact q
abbrev vec (p : Int × Int) : D := .tup [.int p.1, .int p.2]
theorem noLs_all : ∀ {l : List D}, (∀ d ∈ l, noL d = true) -> noLs l = true
 | [], _ => rfl
 | d :: r, h => by rw [noLs, h d List.mem_cons_self, noLs_all fun x hx => h x (List.mem_cons_of_mem _ hx)]; rfl
theorem noDs_all : ∀ {l : List D}, (∀ d ∈ l, noD d = true) -> noDs l = true
 | [], _ => rfl
 | d :: r, h => by rw [noDs, h d List.mem_cons_self, noDs_all fun x hx => h x (List.mem_cons_of_mem _ hx)]; rfl
abbrev vecs (l : List (Int × Int)) : D := .tup (l.map vec)
theorem noL_vecs (l : List (Int × Int)) : noL (vecs l) = true := by
 show noLs (l.map vec) = true
 refine noLs_all fun d hd => ?_
 obtain ⟨p, _, rfl⟩ := List.mem_map.mp hd
 rfl
theorem noD_vecs (l : List (Int × Int)) : noD (vecs l) = true := by
 show noDs (l.map vec) = true
 refine noDs_all fun d hd => ?_
 obtain ⟨p, _, rfl⟩ := List.mem_map.mp hd
 rfl
theorem at_map {α : Type} {f : α -> D} {l : List α} {k : Int} {x : α} (h : atI l k = some x) : atI (l.map f) k = some (f x) := by
 unfold atI at h ⊢
 rw [List.length_map]
 cases q : ixN l.length k with
 | none => rw [q] at h; cases h
 | some j =>
  rw [q] at h
  have h' : l[j]? = some x := h
  show (l.map f)[j]? = some (f x)
  rw [List.getElem?_map, h']
  rfl
theorem menu {ns : List Int} {k : Int} {Q : DK} (h0 : 0 <= k) (h1 : k < ns.length) (q : ∀ v ∈ ns, Q (.int v)) : onV (atI (ns.map D.int) k) Q := by
 obtain ⟨v, hv, e⟩ := at_any (xs := ns) h0 h1
 rw [at_map e]
 exact q v hv
theorem cut_map {α : Type} (f : α -> D) (l : List α) (lo hi : Option Int) : cutD (l.map f) lo hi = ((l.drop (HT.sIx l.length 0 lo)).take (HT.sIx l.length l.length hi - HT.sIx l.length 0 lo)).map f := by
 unfold cutD
 rw [List.length_map, List.map_take, List.map_drop]
end Pu
set_option Elab.async false
set_option linter.all false
set_option maxRecDepth 100000
set_option maxHeartbeats 4000000
namespace Tim
open PySem PyProof.Rows
end Tim
set_option Elab.async false
set_option linter.all false
set_option maxRecDepth 100000
set_option maxHeartbeats 4000000
namespace Tim
open PySem PyProof.Rows
end Tim
set_option Elab.async false
set_option linter.all false
set_option maxRecDepth 100000
set_option maxHeartbeats 4000000
namespace Tim
open PySem PyProof.Rows
end Tim
set_option Elab.async false
set_option linter.all false
set_option maxRecDepth 100000
set_option maxHeartbeats 4000000
namespace Tim
open PySem PyProof.Rows
end Tim
set_option Elab.async false
set_option linter.all false
set_option maxRecDepth 100000
set_option maxHeartbeats 4000000
namespace Tim
open PySem PyProof.Rows
end Tim
set_option Elab.async false
set_option linter.all false
set_option maxRecDepth 100000
set_option maxHeartbeats 4000000
namespace Tim
open PySem PyProof.Rows
end Tim
set_option Elab.async false
set_option linter.all false
set_option maxRecDepth 100000
set_option maxHeartbeats 4000000
namespace Tim
open PySem PyProof.Rows
end Tim
set_option Elab.async false
set_option linter.all false
set_option maxRecDepth 100000
set_option maxHeartbeats 4000000
namespace Tim
open PySem PyProof.Rows
end Tim
set_option Elab.async false
set_option linter.all false
set_option maxRecDepth 100000
set_option maxHeartbeats 4000000
namespace Tim
open PySem PyProof.Rows PySem.W HT
section
variable {prog : Program} {w : World} {A : Around} {E : Value -> Shared -> Prop} {s : Shared}
def TI (h : Heap) (v : Value) (k : List Int) : Prop := ∃ a o items n, v = .ref a /\ h.get? a = some o /\ o.cls = .type "tuple" /\ o.data = .seq items n /\ IntsAre items.toList k
end
end Tim
set_option Elab.async false
set_option linter.all false
set_option maxRecDepth 100000
set_option maxHeartbeats 4000000
namespace Tim
open PySem PyProof.Rows PySem.W HT
end Tim
set_option Elab.async false
set_option linter.all false
set_option maxRecDepth 100000
set_option maxHeartbeats 4000000
namespace Tab
open PySem PySem.SetTable PyProof.Rows
end Tab
set_option Elab.async false
set_option linter.all false
set_option maxRecDepth 100000
set_option maxHeartbeats 4000000
namespace Tab
open PySem PySem.SetTable PyProof.Rows
end Tab
set_option Elab.async false
set_option linter.all false
set_option maxRecDepth 100000
set_option maxHeartbeats 4000000
namespace Tab
open PySem PySem.SetTable PyProof.Rows
end Tab
set_option Elab.async false
set_option linter.all false
set_option maxRecDepth 100000
set_option maxHeartbeats 4000000
namespace Tab
open PySem PySem.SetTable PyProof.Rows
end Tab
set_option Elab.async false
set_option linter.all false
set_option maxRecDepth 100000
set_option maxHeartbeats 4000000
namespace Tab
open PySem PySem.SetTable PyProof.Rows
end Tab
set_option Elab.async false
set_option linter.all false
set_option maxRecDepth 100000
set_option maxHeartbeats 4000000
namespace Tab
open PySem PySem.SetTable PyProof.Rows
end Tab
set_option Elab.async false
set_option linter.all false
set_option maxRecDepth 100000
set_option maxHeartbeats 4000000
namespace Tab
open PySem PySem.SetTable PyProof.Rows
end Tab
set_option Elab.async false
set_option linter.all false
set_option maxRecDepth 100000
set_option maxHeartbeats 4000000
namespace Tab
open PySem PySem.SetTable PyProof.Rows
end Tab
set_option Elab.async false
set_option linter.all false
set_option maxRecDepth 100000
set_option maxHeartbeats 4000000
namespace Rev
open PySem PyProof.Rows
end Rev
set_option Elab.async false
set_option linter.all false
set_option maxRecDepth 100000
set_option maxHeartbeats 4000000
namespace Rev
open PySem PyProof.Rows
end Rev
set_option Elab.async false
set_option linter.all false
set_option maxRecDepth 100000
set_option maxHeartbeats 4000000
namespace Rev
open PySem PyProof.Rows
end Rev
set_option Elab.async false
set_option linter.all false
set_option maxRecDepth 100000
set_option maxHeartbeats 4000000
namespace Pu
open PySem PySem.Spec PyProof.Rows L2 Tab
theorem ObjOk.there {P : Program} {w : World} {H : Hp} {h : Heap} {a : Addr} {o : HO} (x : ObjOk P w H h a o) : ∃ u, h.get? a = some u := by
 cases o with
 | lst xs => obtain ⟨_, _, _, _, e⟩ := x; exact ⟨_, e⟩
 | tup xs => obtain ⟨_, _, _, o, e, _⟩ := x; exact ⟨_, e⟩
 | dK kvs => obtain ⟨_, _, _, _, o, _, _, e, _⟩ := x; exact ⟨_, e⟩
 | dT kvs => obtain ⟨_, _, _, _, o, _, _, e, _⟩ := x; exact ⟨_, e⟩
 | set S n => obtain ⟨o, _, _, _, e, _⟩ := x; exact ⟨_, e⟩
 | ins C dx fs => obtain ⟨_, _, _, e, _⟩ := x; exact ⟨_, e⟩
 | own y => exact x
 | xd fs => obtain ⟨_, ⟨_, _, _, e, _⟩, _⟩ := x; exact ⟨_, e⟩
 | rng lo hi => obtain ⟨_, _, _, e⟩ := x; exact ⟨_, e⟩
 | frz ob u => obtain ⟨e, _⟩ := x; exact ⟨_, e⟩
 | tbl ps => exact ⟨_, (show h.get? a = some _ from x)⟩
 | met f y => exact ⟨_, (show h.get? a = some _ from x)⟩
 | ext φ => obtain ⟨_, z, _⟩ := x; exact z
end Pu
set_option Elab.async false
set_option linter.all false
set_option maxRecDepth 100000
set_option maxHeartbeats 4000000
namespace Pu
open PySem PySem.Spec PyProof.Rows L2 Tab
structure Rows (ks kl : List (List Int)) : Prop where
 up : kl.Pairwise (fun a b => HT.lexLt a b = true)
 mem : ∀ x, x ∈ kl ↔ x ∈ ks
end Pu
set_option Elab.async false
set_option linter.all false
set_option maxRecDepth 100000
set_option maxHeartbeats 4000000
namespace Pu
open PySem PySem.Spec PyProof.Rows L2 Tab
end Pu
set_option Elab.async false
set_option linter.all false
set_option maxRecDepth 100000
set_option maxHeartbeats 4000000
namespace Pu
open PySem PySem.Spec PyProof.Rows L2 Tab
end Pu
set_option Elab.async false
set_option linter.all false
set_option maxRecDepth 100000
set_option maxHeartbeats 4000000
namespace Pu
open PySem PySem.Spec PyProof.Rows L2 Tab
end Pu
set_option Elab.async false
set_option linter.all false
set_option maxRecDepth 100000
set_option maxHeartbeats 4000000
namespace Pu
open PySem PySem.Spec PyProof.Rows L2 Tab
end Pu
set_option Elab.async false
set_option linter.all false
namespace Pu
open PySem L2
def Fn.bot : Fn := ⟨fun _ _ _ => False, fun _ _ _ _ _ _ _ h => h⟩
theorem fn_bot {P : Program} {w : World} {K : PySem.W.Frag} {mg : Str -> Option Value} {base : Heap} {CX : CXT} {k : Nat} {f : Addr} {fd : FuncData} {ps : List Str} : FnOk P w K mg base CX k f fd ps (spP K mg Fn.bot) :=
 ⟨fun _ _ _ _ ⟨_, _, _, _, _, _, h, _⟩ => h.elim, fun _ _ _ _ _ _ _ _ _ _ _ _ _ ⟨_, _, _, _, _, _, h, _⟩ => h.elim⟩
end Pu
set_option Elab.async false
set_option linter.all false
set_option maxRecDepth 100000
namespace Pu
open PySem PySem.Spec PyProof.Rows L2
section
variable {X : Cx} {K : PySem.W.Frag} {mg : Str -> Option Value} {E : XK} {G H : Hp}
def rMulN (K : PySem.W.Frag) : R2 := fun x y H Q => ∃ l xs n, x = .ref l /\ y = .int n /\ SqL K H l xs /\ n <= 100 /\ 0 <= n /\ xs.length <= 1000 /\ ∀ p, H p = none -> Q (.ref p) (upd H p (.lst (List.replicate n.toNat xs).flatten))
theorem vals_rep {xs : List V} {its : List Value} (r : Vals xs its) : ∀ k : Nat, Vals (List.replicate k xs).flatten (List.replicate k its).flatten
 | 0 => .nil
 | k + 1 => by
  rw [List.replicate_succ, List.replicate_succ, List.flatten_cons, List.flatten_cons]
  exact r.append (vals_rep r k)
theorem op_mulN : OpR X (binaryOp .Mult) (rMulN X.K) := by
 intro pins s σ H x y v u Q I rx ry h
 obtain ⟨l, xs, n, rfl, rfl, hH, hn, hn0, hz, q⟩ := h
 cases rx
 obtain ⟨tk, rfl⟩ := ry
 obtain ⟨its, r, ⟨⟨cls, dd, data, sl⟩, ep, e, hc, _, hd⟩, z1⟩ := I.list hH
 dsimp only at hc hd
 subst hc hd
 have l1 := r.length
 have hm : its.length * n.toNat <= 100000 := Nat.le_trans (Nat.mul_le_mul (show its.length <= 1000 by omega) (show n.toNat <= 100 by omega)) (by decide)
 have ea : List.foldl (fun x1 x2 => x1 ++ x2) #[] (List.replicate (if its.toArray.isEmpty = true then 0 else n.toNat) its.toArray) = ((List.replicate n.toNat its).flatten).toArray := by
  have := listMul_foldl_if its.toArray n.toNat
  simpa using this
 have szs : (List.replicate n.toNat xs).flatten.length <= sizeLine := Nat.le_trans (show _ <= 100000 by rw [<- l1] at hm; simpa [Nat.mul_comm] using hm) (by decide)
 refine wpAny_binaryOp_repeat_ref (T := "list") (U := "int") (by decide) ⟨_, e, rfl⟩ (fun s' => typeIs_int s' n tk) noFill_list_mul PySem.F.fills_int_mul PySem.F.slot_int_rmul repeat_list PySem.F.slot_int_index.lookup ?_
 refine call_meets PySem.F.slot_int_rmul (typeIs_int s n tk) PySem.F.entry_int_rmul (PySem.F.args_int_rmul_2 _ _) (lm_int_rmul_list_any n tk l its.toArray ep dd sl) ⟨e, rfl, ⟨_, e, rfl⟩, ?_⟩
 refine call_meets PySem.F.slot_list_mul ⟨_, e, rfl⟩ PySem.F.entry_list_mul (PySem.F.args_list_mul_2 _ _) (lm_list_mul_any l its.toArray ep dd sl n tk ?_ ?_ ?_) ⟨e, ?_⟩
 ·simp [Builtin.List.listFitsIndex]; omega
 ·simp only [List.size_toArray]; omega
 ·simp only [List.size_toArray, Builtin.List.listTooLong, sizeLine, decide_eq_true_eq]; omega
 rw [ea]
 exact ⟨.ref _, _, I.lnew (t' := s.toks) (vals_rep r n.toNat) szs, rfl, q _ I.fresh⟩
def gMulL (a b : D) (Q : DK) : Prop := match a, b with
 | .lst l, .int n => (n <= 100 /\ 0 <= n /\ l.length <= 1000) /\ Q (.lst (List.replicate n.toNat l).flatten)
 | _, _ => False
theorem gMulL_mono (a b : D) (Q Q' : DK) (m : ∀ d, Q d -> Q' d) (h : gMulL a b Q) : gMulL a b Q' := by
 unfold gMulL at h ⊢
 split at h
 ·exact ⟨h.1, m _ h.2⟩
 ·exact h.elim
def pMulL : Fn := fn2 gMulL gMulL_mono
theorem rds_rep {l : List D} {xs : List V} (r : RDs K mg G l xs) : ∀ k : Nat, RDs K mg G (List.replicate k l).flatten (List.replicate k xs).flatten
 | 0 => RDs.nil
 | k + 1 => by
  rw [List.replicate_succ, List.replicate_succ, List.flatten_cons, List.flatten_cons]
  exact r.app (rds_rep r k)
theorem oa_mulL : OpR X (binaryOp .Mult) (r2 X.K X.mg pMulL) := by
 intro pins s σ H x y v u Q I rx ry ⟨G, d1, d2, Q0, X0, g, h1, h2, hr, hk⟩
 have hr' : gMulL d1 d2 Q0 := hr
 unfold gMulL at hr'
 split at hr'
 ·obtain ⟨a, xs, rfl, s1, r1⟩ := rd_lst h1
  obtain ⟨⟨q1, q2, q3⟩, q⟩ := hr'
  exact op_mulN pins s σ H _ _ v u Q I rx ry ⟨a, xs, _, rfl, rd_int h2, same_L g s1, q1, q2, by rw [r1.len]; exact q3, fun p hp => hk.new g hp q (RD.newL (rds_rep r1 _) g hp)⟩
 ·exact hr'.elim
def gAddL (a b : D) (Q : DK) : Prop := match a, b with
 | .lst l, .lst m => l.length + m.length <= sizeLine /\ Q (.lst (l ++ m))
 | _, _ => False
theorem gAddL_mono (a b : D) (Q Q' : DK) (m : ∀ d, Q d -> Q' d) (h : gAddL a b Q) : gAddL a b Q' := by
 unfold gAddL at h ⊢
 split at h
 ·exact ⟨h.1, m _ h.2⟩
 ·exact h.elim
def pAddL : Fn := fn2 gAddL gAddL_mono
theorem qf_addL {a b : Expr} {x y : Ex} {pos : Pos} (ha : QX X E a x) (hb : QX X E b y) : QF X E (.BinOp a .Add b pos) (.op pAddL [x, y]) := QE.imp (qe_op op_catN ha hb) fun σ H Q ⟨G, ρ, Q0, X0, hs, ab, hr, hk, hx⟩ => by
 refine ⟨G, ρ, fun d => y.run ρ (fun d' => pAddL.run [d, d'] Q0 X0) X0, X0, hs, ab, hr, ?_, hx⟩
 intro d v G1 H1 hb g1 g2 g3 rd
 refine ⟨G1, ρ, fun d' => pAddL.run [d, d'] Q0 X0, X0, g2, ab.same g1.1, hb, ?_, hx.same g3⟩
 intro d' v' G2 H2 hF k1 k2 k3 rd'
 have hF' : gAddL d d' Q0 := hF
 unfold gAddL at hF'
 split at hF'
 ·rename_i l m
  obtain ⟨l1, xs, rfl, s1, r1⟩ := rd_lst (rd.same k1.1)
  obtain ⟨l2, ys, rfl, s2, r2⟩ := rd_lst rd'
  refine ⟨l1, l2, xs, ys, rfl, rfl, same_L k2 s1, same_L k2 s2, by rw [r1.len, r2.len]; exact hF'.1, fun p hp => ?_⟩
  exact hk (.lst (l ++ m)) p G2 (upd H2 p (.lst (xs ++ ys))) hF'.2 (g1.trans g3 k1) (same_t k2 (same_new hp _)) (same_t (same_t g3 k3) (same_new hp _)) (new_none (same_t g3 k3) hp) (new_none k2 hp) ⟨xs ++ ys, upd_same, r1.app r2⟩
 ·exact hF'.elim
end
end Pu
set_option Elab.async false
set_option linter.all false
set_option maxRecDepth 100000
namespace Pu
open PySem PySem.Spec PyProof.Rows L2
def Sm.par2 (i j : Nat) (es : List Ex) : Sm := ⟨fun ρ N _ Xp => runs es (vis ρ) (fun ds => [i, j].length = ds.length /\ N (setAll [i, j] ds ρ)) Xp, fun ρ N N' Q Q' Xp X' mn m mx q => runs_mono es _ _ _ Xp X' (fun d q1 => ⟨q1.1, mn _ q1.2⟩) mx q⟩
section
variable {X : Cx} {E : XK} {pos : Pos}
theorem qz_par2 {i j : Nat} {x y : Str} {a b : Expr} {es : List Ex} {px py pt : Pos} {kt k2 pt2} (hc : X.calm = true) (hN : X.N.Nodup) (hi : X.N[i]? = some x) (hj : X.N[j]? = some y) (hij : i ≠ j)
  (hx : X.env.scope.names.lookup x = some .local) (hy : X.env.scope.names.lookup y = some .local) (ha : QXA X E [a, b] es)
  (hw : swappedStores [.Tuple [.Name x px, .Name y py] kt pt] (.Tuple [a, b] k2 pt2) X.env = pure (some [x, y]))
  (hs : swapsWithSole [.Tuple [.Name x px, .Name y py] kt pt] (.Tuple [a, b] k2 pt2) pos.line X.env = pure false := by rfl) :
  QZ X E (.Assign [.Tuple [.Name x px, .Name y py] kt pt] (.Tuple [a, b] k2 pt2) pos) (.par2 i j es) := QS.imp (qs_par hc hN hi hj hij hx hy ha hw hs) fun D σ H ⟨H0, G0, G, ρ, N0, R0, X0, ab, hr, hn, hR, hx⟩ => by
 refine ⟨G, vis ρ, _, X0, ab.g, ab.vis, hr, fun ds vs G1 H1 q g1 g2 g3 rds => ?_, hx.same ab.s0⟩
 have ab2 := ab.over g1 g2 g3
 match ds, q.1, vs, rds with
 | [d1, d2], _, vs, rds =>
  have hl := rds.len
  match vs, hl with
  | [v, w], _ => exact ⟨v, w, rfl, hn _ _ _ _ q.2 (ab2.putAll [i, j] [d1, d2] [v, w] rfl rds) g1.1⟩
end
end Pu
set_option Elab.async false
set_option linter.all false
namespace Pu
open PySem L2
def f_common_divisor : Fn := Fn.mkN 2 5 (.seq (.set 2 (.op pAbs [(.v 0)]))
 (.seq (.set 3 (.op pAbs [(.v 1)]))
 (.seq (.wh (.op pNe [(.v 3), (.c (.int 0))]) (.seq (.set 4 (.op pMod [(.v 2), (.v 3)]))
 (.seq (.set 2 (.v 3))
 (.set 3 (.v 4)))))
 (.ret (.v 2)))))
end Pu
set_option Elab.async false
set_option linter.all false
namespace Pu
open PySem L2
end Pu
set_option Elab.async false
set_option linter.all false
set_option maxRecDepth 100000
set_option maxHeartbeats 4000000
local macro_rules | `(tactic| walk_at "bt") => `(tactic| first | assumption | (refine L2.Bt.add ?_ ?_ <;> walk_at "bt") | (refine L2.Bt.sub ?_ ?_ <;> walk_at "bt") | (refine L2.Bt.mul ?_ ?_ <;> walk_at "bt") | (refine L2.Bt.neg ?_; walk_at "bt") | exact L2.bt_k (by decide +kernel) | exact L2.bt_n (by omega) (by omega))
local macro_rules | `(tactic| walk_at "mu") => `(tactic| exact ⟨L2.Bt.le (by walk_at "bt") (by decide), L2.Bt.le (by walk_at "bt") (by decide)⟩)
local macro_rules | `(tactic| walk_at "ps") => `(tactic| first | assumption | decide | omega)
local macro_rules | `(tactic| walk_at "bb") => `(tactic| first | exact L2.bt_small (by decide) (by decide) | exact L2.Bt.le (by walk_at "bt") (by decide) | exact L2.bt_small (by omega) (by omega))
local macro_rules | `(tactic| walk_at "sf") => `(tactic| first | exact Pu.Safe.of_noL rfl rfl _ | exact Pu.Safe.of_noL (Pu.noL_vecs _) (Pu.noD_vecs _) _ | (repeat (first | exact trivial | refine ⟨trivial, ?_⟩)) | assumption)
local macro_rules | `(tactic| walk_at "en") => `(tactic| try simp only [List.set_cons_zero, List.set_cons_succ, List.map_cons, List.map_nil, List.replicate, List.cons_append, List.nil_append, Nat.reduceSub, Pu.dem, Pu.vis, Pu.visB, Pu.demB, List.getElem?_cons_zero, List.getElem?_cons_succ, Option.getD_some, Pu.compEnv, List.replicate_succ, List.replicate_zero])
local macro_rules | `(tactic| walk_at "st") => `(tactic| first
 | with_reducible refine Pu.e_c ?_
 | ((with_reducible refine Pu.e_v ?_); (refine Pu.o_some ?_))
 | with_reducible refine Pu.e_op2 ?_
 | with_reducible refine Pu.e_op1 ?_
 | with_reducible refine Pu.e_op3 ?_
 | with_reducible refine Pu.e_op4 ?_
 | with_reducible refine Pu.e_opN ?_
 | with_reducible refine Pu.rn_cons ?_
 | with_reducible refine Pu.rn_nil ?_
 | with_reducible refine Pu.o_add ?_
 | with_reducible refine Pu.o_sub ?_
 | with_reducible refine Pu.o_neg ?_
 | ((with_reducible refine Pu.o_mul ?_ ?_); (focus walk_at "mu"))
 | ((with_reducible refine Pu.o_divP ?_ ?_ ?_); (focus walk_at "ps"); (focus walk_at "bb"))
 | ((with_reducible refine Pu.o_modP ?_ ?_); (focus walk_at "ps"))
 | ((with_reducible refine Pu.o_pow ?_ ?_); (focus exact ⟨by decide, by decide, by decide⟩))
 | ((with_reducible refine Pu.o_ixT ?_); (try refine Pu.o_some ?_))
 | ((with_reducible refine Pu.o_ixL ?_); (try refine Pu.o_some ?_))
 | with_reducible refine Pu.o_lt ?_
 | with_reducible refine Pu.o_le ?_
 | with_reducible refine Pu.o_gt ?_
 | with_reducible refine Pu.o_ge ?_
 | with_reducible refine Pu.o_eq ?_
 | with_reducible refine Pu.o_ne ?_
 | with_reducible refine Pu.o_is ?_
 | with_reducible refine Pu.o_isnot ?_
 | with_reducible refine Pu.o_lenL ?_
 | with_reducible refine Pu.o_lenT ?_
 | ((with_reducible refine Pu.o_tup ?_ ?_); (focus (simp only [List.length_cons, List.length_nil]; decide)))
 | ((with_reducible refine Pu.o_lst ?_ ?_); (focus (simp only [List.length_cons, List.length_nil]; decide)))
 | with_reducible refine Pu.o_tupL ?_
 | with_reducible refine Pu.o_tupT ?_
 | with_reducible refine Pu.o_lstL ?_
 | with_reducible refine Pu.o_lstT ?_
 | with_reducible refine Pu.o_abs ?_
 | with_reducible refine Pu.o_intI ?_
 | with_reducible refine Pu.o_intB ?_
 | with_reducible refine Pu.o_isiI ?_
 | with_reducible refine Pu.o_isiB ?_
 | with_reducible refine Pu.o_isiT ?_
 | with_reducible refine Pu.o_isiL ?_
 | with_reducible refine Pu.o_isiS ?_
 | with_reducible refine Pu.o_isiN ?_
 | with_reducible refine Pu.o_max2 ?_
 | with_reducible refine Pu.o_min2 ?_
 | with_reducible refine Pu.e_and ?_
 | with_reducible refine Pu.e_or ?_
 | with_reducible refine Pu.e_not ?_
 | with_reducible refine Pu.n_bl ?_
 | with_reducible refine Pu.e_ifx ?_
 | with_reducible refine Pu.e_comp ?_
 | with_reducible refine Pu.i_lst ?_
 | with_reducible refine Pu.i_tup ?_
 | with_reducible refine Pu.e_sl ?_
 | with_reducible refine Pu.e_sls ?_
 | with_reducible refine Pu.p_none ?_
 | with_reducible refine Pu.p_some ?_
 | with_reducible refine Pu.is_int ?_
 | with_reducible refine Pu.c_lst ?_
 | with_reducible refine Pu.c_tup ?_
 | with_reducible refine Pu.t_true ?_
 | with_reducible refine Pu.t_false ?_
 | with_reducible refine Pu.s_seq ?_
 | with_reducible refine Pu.s_set ?_
 | with_reducible refine Pu.s_own ?_
 | with_reducible refine Pu.s_setx ?_
 | with_reducible refine Pu.s_if ?_
 | with_reducible refine Pu.s_ret ?_
 | with_reducible refine Pu.s_retN ?_
 | with_reducible refine Pu.s_skip ?_
 | with_reducible refine Pu.s_ex ?_
 | with_reducible refine Pu.s_raise ?_
 | with_reducible refine Pu.s_calm ?_
 | ((with_reducible refine Pu.s_for ?_); (walk_at "en"))
 | with_reducible refine Pu.s_forr1 ?_
 | with_reducible refine Pu.s_forr2 ?_
 | ((with_reducible refine Pu.sf_and ?_ ?_); (focus walk_at "sf"); (walk_at "en"))
 | ((with_reducible refine Pu.cf_nm ?_); (walk_at "en"))
 | ((with_reducible refine Pu.cf_nmc ?_); (walk_at "en")))
local macro_rules | `(tactic| walk_at "go") => `(tactic| repeat walk_at "st")
local macro_rules | `(tactic| walk_at "fn") => `(tactic| ((refine Pu.r_fnN rfl ?_); (walk_at "en")))
local macro_rules | `(tactic| walk_at "fe") => `(tactic| ((refine Pu.r_fnE rfl ?_); (walk_at "en")))
namespace Pu
open PySem L2
theorem szl {n : Nat} (h : n <= 1000000) : n <= sizeLine := Nat.le_trans h (by decide)
theorem szl' {n : Nat} (h : n <= 1000000) : n < sizeLine := Nat.lt_of_le_of_lt h (by decide)
abbrev Vb (n : Nat) (p : Int × Int) : Prop := Bt n p.1 /\ Bt n p.2
abbrev Wb (n : Nat) (l : List (Int × Int)) : Prop := ∀ p ∈ l, Vb n p
theorem Vb.le {m n : Nat} {p : Int × Int} (h : Vb m p) (q : m <= n := by decide) : Vb n p := ⟨h.1.le q, h.2.le q⟩
def dot (p r : Int × Int) : Int := p.1 * r.1 + p.2 * r.2
end Pu
set_option Elab.async false
set_option linter.all false
set_option maxRecDepth 100000
set_option maxHeartbeats 4000000
namespace Pu
open PySem L2
theorem at_nat {α : Type} {l : List α} {k : Nat} (h : k < l.length) : atI l (k : Int) = l[k]? := by
 unfold atI ixN
 rw [if_pos (by lia), if_pos (by lia)]
 simp
abbrev P := Geo.P
theorem cy_at {h : List P} {k : Nat} (hk : k < h.length) : atI h (k : Int) = some (Geo.cy h k) := by
 rw [at_nat hk, <- Geo.cy_get (i := k) (by lia), Nat.mod_eq_of_lt hk]
end Pu
set_option Elab.async false
set_option linter.all false
namespace Pu
open PySem L2
def f_law_cell_at_d411b : Fn := Fn.mkN 2 2 (.seq (.ifs (.op pLt [(.v 1), (.op pLen [(.v 0)])]) (.ret (.op pIx [(.v 0), (.v 1)])) .skip)
 (.ret (.c (.int 0))))
def f_law_mix_a2b94 : Fn := Fn.mkN 2 4 (.seq (.set 2 (.c (.int 2305843009213693951)))
 (.seq (.set 3 (.op pMod [(.op pMulI [(.op pAdd [(.op pAdd [(.op pMod [(.v 0), (.v 2)]), (.op pMulI [(.c (.int 31)), (.v 1)])]), (.c (.int 7))]), (.c (.int 48271))]), (.v 2)]))
 (.ret (.op pFdiv [(.op pMod [(.op pMulI [(.op pMod [(.op pMulI [(.v 3), (.v 3)]), (.v 2)]), (.c (.int 69621))]), (.v 2)]), (.c (.int 7))]))))
def f_law_same_a1d8f_r : Nat -> Fn
 | 0 => Fn.bot
 | n + 1 => Fn.mkN 2 3 (.seq (.ifs (.op (pIsi "tuple") [(.v 1)]) (.seq (.ifs (.or (.not (.op (pIsi "tuple") [(.v 0)])) (.op pNe [(.op pLen [(.v 0)]), (.op pLen [(.v 1)])])) (.ret (.c (.bl false))) .skip)
 (.seq (.forr [(.op pLen [(.v 1)])] (.nm 2) (.ifs (.not (.op (f_law_same_a1d8f_r n) [(.op pIx [(.v 0), (.v 2)]), (.op pIx [(.v 1), (.v 2)])])) (.ret (.c (.bl false))) .skip))
 (.ret (.c (.bl true))))) .skip)
 (.seq (.ifs (.op pIs [(.v 1), (.c .non)]) (.ret (.op pIs [(.v 0), (.c .non)])) .skip)
 (.seq (.ifs (.op (pIsi "str") [(.v 1)]) (.ret (.and (.op (pIsi "str") [(.v 0)]) (.op pEq [(.v 0), (.v 1)]))) .skip)
 (.seq (.ifs (.or (.not (.op (pIsi "int") [(.v 0)])) (.op pNe [(.op (pIsi "bool") [(.v 0)]), (.op (pIsi "bool") [(.v 1)])])) (.ret (.c (.bl false))) .skip)
 (.ret (.op pEq [(.v 0), (.v 1)]))))))
def f_law_same_a1d8f : Fn := f_law_same_a1d8f_r 4
def f_law_vector_5237a : Fn := Fn.mkN 3 4 (.seq (.set 3 (.op pSub [(.op pMod [(.op f_law_mix_a2b94 [(.v 0), (.v 1)]), (.op pAdd [(.op pMulI [(.c (.int 2)), (.v 2)]), (.c (.int 1))])]), (.v 2)]))
 (.ret (.op pTup [(.v 3), (.op pSub [(.op pMod [(.op f_law_mix_a2b94 [(.v 0), (.op pAdd [(.v 1), (.c (.int 1))])]), (.op pAdd [(.op pMulI [(.c (.int 2)), (.v 2)]), (.c (.int 1))])]), (.v 2)])])))
def f_law_digits_322a4 : Fn := Fn.mkN 2 3 (.seq (.set 2 (.op pAdd [(.op pMulI [(.c (.int 2)), (.v 1)]), (.c (.int 1))]))
 (.ret (.op pTup [(.op pSub [(.op pMod [(.v 0), (.v 2)]), (.v 1)]), (.op pSub [(.op pMod [(.op pFdiv [(.v 0), (.v 2)]), (.v 2)]), (.v 1)])])))
def f_law_within_5c1cf : Fn := Fn.mkN 1 1 (.ret (.op pMax2 [(.op pNeg [(.op pPow [(.c (.int 10)), (.c (.int 9))])]), (.op pMin2 [(.op pPow [(.c (.int 10)), (.c (.int 9))]), (.v 0)])]))
def f_law_wind_28f7f : Fn := Fn.mkN 2 9 (.seq (.set 2 (.op f_law_vector_5237a [(.op pIx [(.v 0), (.c (.int 0))]), (.c (.int 10)), (.v 1)]))
 (.seq (.set 3 (.op f_law_vector_5237a [(.op pIx [(.v 0), (.c (.int 0))]), (.c (.int 20)), (.c (.int 3))]))
 (.seq (.set 4 (.op pMod [(.op f_law_mix_a2b94 [(.op pIx [(.v 0), (.c (.int 0))]), (.c (.int 30))]), (.c (.int 6))]))
 (.seq (.own 5 (.op pLst []))
 (.seq (.for_ [] (.nm 6) (.v 0) (.seq (.set 7 (.op f_law_vector_5237a [(.v 6), (.c (.int 10)), (.v 1)]))
 (.seq (.set 8 (.op pSub [(.op pMod [(.op f_law_mix_a2b94 [(.v 6), (.c (.int 40))]), (.c (.int 7))]), (.c (.int 3))]))
 (.seq (.ifs (.op pEq [(.v 4), (.c (.int 4))]) (.set 7 (.op pTup [(.op f_law_within_5c1cf [(.op pAdd [(.op pIx [(.v 2), (.c (.int 0))]), (.op pMulI [(.v 8), (.op pIx [(.v 3), (.c (.int 0))])])])]), (.op f_law_within_5c1cf [(.op pAdd [(.op pIx [(.v 2), (.c (.int 1))]), (.op pMulI [(.v 8), (.op pIx [(.v 3), (.c (.int 1))])])])])])) .skip)
 (.seq (.ifs (.op pEq [(.v 4), (.c (.int 5))]) (.set 7 (.v 2)) .skip)
 (.app 5 (.v 7)))))))
 (.ret (.op pTupOf [(.v 5)])))))))
def f_law_far_off_b901c : Fn := Fn.mkN 1 1 (.ret (.op pTupOf [(.comp 1 [] (.nm 0) (.v 0) none (.op pTup [(.op pMulI [(.op pMulI [(.op pIx [(.v 0), (.c (.int 0))]), (.op pPow [(.c (.int 10)), (.c (.int 64))])]), (.op pPow [(.c (.int 10)), (.c (.int 64))])]), (.op pMulI [(.op pMulI [(.op pIx [(.v 0), (.c (.int 1))]), (.op pPow [(.c (.int 10)), (.c (.int 64))])]), (.op pPow [(.c (.int 10)), (.c (.int 64))])])]))]))
def f_law_free_pairs_d0d6d : Fn := Fn.mkN 2 6 (.seq (.own 2 (.op pLst []))
 (.seq (.set 3 (.c (.int 0)))
 (.seq (.wh (.op pLt [(.v 3), (.op pLen [(.v 0)])]) (.seq (.set 4 (.op pAdd [(.c (.int 1)), (.op pMod [(.op pIx [(.v 0), (.v 3)]), (.c (.int 12))])]))
 (.seq (.own 5 (.op pAddL [(.sl (.v 0) (some (.op pAdd [(.v 3), (.c (.int 1))])) (some (.op pAdd [(.op pAdd [(.v 3), (.c (.int 1))]), (.v 4)]))), (.op pMulL [(.op pLst [(.c (.int 0))]), (.op pInt [(.op pEq [(.op pAdd [(.v 3), (.c (.int 1))]), (.op pLen [(.v 0)])])])])]))
 (.seq (.app 2 (.op pTup [(.op pTupOf [(.comp 1 [1] (.nm 0) (.v 5) none (.op f_law_digits_322a4 [(.v 0), (.v 1)]))]), (.op pFdiv [(.op pIx [(.v 0), (.v 3)]), (.c (.int 12))])]))
 (.set 3 (.op pAdd [(.op pAdd [(.v 3), (.c (.int 1))]), (.v 4)]))))))
 (.ret (.v 2)))))
def f_law_pairs_3ea81 : Fn := Fn.mkN 1 7 (.seq (.set 1 (.op f_law_cell_at_d411b [(.v 0), (.c (.int 0))]))
 (.seq (.set 2 (.op pAdd [(.sl (.v 0) (some (.c (.int 1))) none), (.op pMulL [(.op pLst [(.c (.int 0))]), (.op pInt [(.op pLt [(.op pLen [(.v 0)]), (.c (.int 2))])])])]))
 (.seq (.ifs (.op pEq [(.op pMod [(.v 1), (.c (.int 2))]), (.c (.int 1))]) (.ret (.op f_law_free_pairs_d0d6d [(.v 2), (.op pIx [(.op pLst [(.c (.int 12)), (.op pPow [(.c (.int 10)), (.c (.int 9))]), (.op pPow [(.c (.int 10)), (.c (.int 60))])]), (.op pMod [(.op pFdiv [(.v 1), (.c (.int 2))]), (.c (.int 3))])])])) .skip)
 (.seq (.set 3 (.op pIx [(.op pLst [(.c (.int 3)), (.c (.int 3)), (.c (.int 12)), (.c (.int 12)), (.c (.int 40)), (.op pPow [(.c (.int 10)), (.c (.int 9))])]), (.op pMod [(.op f_law_mix_a2b94 [(.v 1), (.c (.int 1))]), (.c (.int 6))])]))
 (.seq (.own 4 (.op pLst []))
 (.seq (.set 5 (.c (.int 0)))
 (.seq (.wh (.op pLt [(.v 5), (.op pLen [(.v 2)])]) (.seq (.set 6 (.op pAdd [(.c (.int 1)), (.op pMod [(.op f_law_mix_a2b94 [(.op pIx [(.v 2), (.v 5)]), (.c (.int 50))]), (.op pIx [(.op pLst [(.c (.int 12)), (.c (.int 4)), (.c (.int 3)), (.c (.int 5))]), (.op pMod [(.op f_law_mix_a2b94 [(.op pIx [(.v 2), (.v 5)]), (.c (.int 51))]), (.c (.int 4))])])])]))
 (.seq (.app 4 (.op pTup [(.op f_law_wind_28f7f [(.sl (.v 2) (some (.v 5)) (some (.op pAdd [(.v 5), (.v 6)]))), (.v 3)]), (.op pIx [(.v 2), (.v 5)])]))
 (.set 5 (.op pAdd [(.v 5), (.v 6)])))))
 (.seq (.ifs (.op pEq [(.op pMod [(.op f_law_mix_a2b94 [(.op pIx [(.v 2), (.c (.int 0))]), (.c (.int 52))]), (.c (.int 4))]), (.c (.int 1))]) (.own 4 (.op pAddL [(.op pLst [(.op pTup [(.op f_law_wind_28f7f [(.v 2), (.v 3)]), (.op pAdd [(.op pIx [(.v 2), (.c (.int 0))]), (.c (.int 1))])])]), (.v 4)])) .skip)
 (.seq (.ifs (.op pEq [(.op pMod [(.op f_law_mix_a2b94 [(.op pIx [(.v 2), (.c (.int 0))]), (.c (.int 53))]), (.c (.int 8))]), (.c (.int 1))]) (.own 4 (.comp 1 [] (.nm 0) (.v 4) none (.op pTup [(.op f_law_far_off_b901c [(.op pIx [(.v 0), (.c (.int 0))])]), (.op pIx [(.v 0), (.c (.int 1))])]))) .skip)
 (.ret (.v 4)))))))))))
end Pu
set_option Elab.async false
set_option linter.all false
set_option maxRecDepth 100000
set_option maxHeartbeats 4000000
namespace Pu
open PySem L2
theorem s_cell_at {l : List Int} {k : Int} {Q : DK} {X : XP} (hk : 0 <= k) (q : ∀ c, Q (.int c)) : f_law_cell_at_d411b.run [.lst (l.map .int), .int k] Q X := by
 walk_at "fn"
 walk_at "go"
 refine t_dec (fun h => ?_) (fun h => ?_)
 ·walk_at "go"
  rw [List.length_map] at h
  obtain ⟨v, _, e⟩ := at_any (xs := l) hk h
  rw [at_map e]
  exact q v
 ·walk_at "go"
  exact q 0
theorem s_mix {c k : Int} {Q : DK} {X : XP} (hk : Bt 640 k) (q : ∀ r : Int, 0 <= r -> r < 2305843009213693951 -> Q (.int r)) : f_law_mix_a2b94.run [.int c, .int k] Q X := by
 have b1 : Bt 3000 (c % 2305843009213693951 + 31 * k + 7) := (Bt.add (Bt.add (bt_n (by omega) (by omega)) (Bt.mul (bt_k (by decide +kernel)) hk)) (bt_k (by decide +kernel))).le
 walk_at "fn"
 walk_at "go"
 refine q _ ?_ ?_ <;> omega
def Far (m : Int) (p : Int × Int) : Prop := (-m <= p.1 /\ p.1 <= m) /\ -m <= p.2 /\ p.2 <= m
theorem Far.vb {m : Int} {n : Nat} {p : Int × Int} (h : Far m p) (hm : m < 2 ^ n) : Vb n p := by
 obtain ⟨⟨h1, h2⟩, h3, h4⟩ := h
 have e : ((2 ^ n : Nat) : Int) = 2 ^ n := by simp
 refine ⟨bt_abs ?_, bt_abs ?_⟩ <;> omega
theorem s_vector {c k m : Int} {Q : DK} {X : XP} (hk : 0 <= k) (hk' : k <= 1000) (hm : 0 <= m) (hm' : m <= 1000000000) (q : ∀ p, Far m p -> Q (vec p)) : f_law_vector_5237a.run [.int c, .int k, .int m] Q X := by
 have b2 : 0 < 2 * m + 1 := by omega
 have bm : Bt 640 m := bt_abs (by omega)
 walk_at "fn"
 walk_at "go"
 refine s_mix (bt_abs (by omega)) fun r r0 r1 => ?_
 walk_at "go"
 refine s_mix (bt_abs (by omega)) fun u u0 u1 => ?_
 walk_at "go"
 have h1 := Int.emod_nonneg r (show 2 * m + 1 ≠ 0 by omega)
 have h2 := Int.emod_lt_of_pos r b2
 have h3 := Int.emod_nonneg u (show 2 * m + 1 ≠ 0 by omega)
 have h4 := Int.emod_lt_of_pos u b2
 exact q (r % (2 * m + 1) - m, u % (2 * m + 1) - m) ⟨⟨by show -m <= r % (2 * m + 1) - m; omega, by show r % (2 * m + 1) - m <= m; omega⟩, by show -m <= u % (2 * m + 1) - m; omega, by show u % (2 * m + 1) - m <= m; omega⟩
theorem s_digits {c m : Int} {Q : DK} {X : XP} (hm : 0 <= m) (hb : Bt 300 m) (q : ∀ p, Far m p -> Q (vec p)) : f_law_digits_322a4.run [.int c, .int m] Q X := by
 have b2 : 0 < 2 * m + 1 := by omega
 have bm : Bt 640 m := hb.le
 have bw : Bt 9000 (2 * m + 1) := (Bt.add (Bt.mul (bt_abs (n := 2) (i := 2) (by decide)) hb) (bt_abs (n := 1) (i := 1) (by decide))).le
 walk_at "fn"
 walk_at "go"
 have h1 := Int.emod_nonneg c (show 2 * m + 1 ≠ 0 by omega)
 have h2 := Int.emod_lt_of_pos c b2
 have h3 := Int.emod_nonneg (c / (2 * m + 1)) (show 2 * m + 1 ≠ 0 by omega)
 have h4 := Int.emod_lt_of_pos (c / (2 * m + 1)) b2
 exact q (c % (2 * m + 1) - m, c / (2 * m + 1) % (2 * m + 1) - m) ⟨⟨by show -m <= c % (2 * m + 1) - m; omega, by show c % (2 * m + 1) - m <= m; omega⟩, by show -m <= c / (2 * m + 1) % (2 * m + 1) - m; omega, by show c / (2 * m + 1) % (2 * m + 1) - m <= m; omega⟩
theorem s_within {c : Int} {Q : DK} {X : XP} (q : ∀ r, -1000000000 <= r -> r <= 1000000000 -> Q (.int r)) : f_law_within_5c1cf.run [.int c] Q X := by
 walk_at "fn"
 walk_at "go"
 refine q _ ?_ ?_
 all_goals
  rw [show (10 : Int) ^ (9 : Int).toNat = 1000000000 from by decide]
  split <;> (try split) <;> omega
theorem Far.le {m n : Int} {p : Int × Int} (h : Far m p) (q : m <= n) : Far n p := ⟨⟨by have := h.1.1; omega, by have := h.1.2; omega⟩, by have := h.2.1; omega, by have := h.2.2; omega⟩
theorem s_cut {s t : Sm} {ρ : Pu.Env} {N : Pu.Env -> Prop} {Q : DK} {X : XP} (W : Pu.Env -> Prop) (h : s.run ρ W Q X) (k : ∀ ρ', W ρ' -> t.run ρ' N Q X) : (Sm.seq s t).run ρ N Q X := s.mono ρ W _ Q Q X X k (fun _ z => z) (fun _ z => z) h
theorem s_wind {cs : List Int} {m : Int} {Q : DK} {X : XP} (hn : cs ≠ []) (hz : cs.length <= 1000) (hm : 0 <= m) (hm' : m <= 1000000000) (q : ∀ l : List (Int × Int), l.length = cs.length -> (∀ p ∈ l, Far 1000000000 p) -> Q (vecs l)) : f_law_wind_28f7f.run [.lst (cs.map .int), .int m] Q X := by
 obtain ⟨c0, _, e0⟩ := at_any (xs := cs) (i := 0) (by decide) (by have := List.length_pos_iff.mpr hn; omega)
 walk_at "fn"
 walk_at "go"
 refine ix_ok (at_map e0) ?_
 walk_at "go"
 refine s_vector (by decide) (by decide) hm hm' fun fst hf => ?_
 refine sf_and (Safe.of_noL rfl rfl _) ?_
 walk_at "en"
 walk_at "go"
 refine ix_ok (at_map e0) ?_
 walk_at "go"
 refine s_vector (by decide) (by decide) (by decide) (by decide) fun stp hs => ?_
 refine sf_and (Safe.of_noL rfl rfl _) ?_
 walk_at "en"
 walk_at "go"
 refine ix_ok (at_map e0) ?_
 walk_at "go"
 refine s_mix (bt_abs (by decide)) fun r r0 r1 => ?_
 walk_at "go"
 generalize r % 6 = way
 refine sfi_and (fun x hx => by cases hx) ?_
 walk_at "en"
 walk_at "go"
 refine forL_inv (f := .int) (fun dn ρ => ∃ (rs : List P) (x6 x7 x8 : B), (∀ p ∈ rs, Far 1000000000 p) /\ rs.length = dn.length /\ ρ = [.s (.lst (cs.map .int)), .s (.int m), .s (vec fst), .s (vec stp), .s (.int way), .o (.lst (rs.map vec)), x6, x7, x8]) ⟨[], _, _, _, fun _ z => by (cases z), rfl, rfl⟩ ?_ ?_
 ·rintro dn c r' ρ e ⟨rs, x6, x7, x8, hrs, hlen, rfl⟩
  have hd : dn.length <= 1000 := by
   have := congrArg List.length e
   simp at this hz
   omega
  show Sm.run _ _ _ _ _
  walk_at "en"
  walk_at "go"
  refine s_vector (by decide) (by decide) hm hm' fun hg hh => ?_
  refine sf_and (Safe.of_noL rfl rfl _) ?_
  walk_at "en"
  walk_at "go"
  refine s_mix (bt_abs (by decide)) fun u u0 u1 => ?_
  walk_at "go"
  have ht : -3 <= u % 7 - 3 /\ u % 7 - 3 <= 3 := by omega
  generalize u % 7 - 3 = tn at *
  have btn : Bt 640 tn := bt_abs (by omega)
  obtain ⟨s1, s2⟩ := hs.vb (n := 640) (by decide +kernel)
  refine t_cut (fun ρ' => ∃ g, Far 1000000000 g /\ ρ' = [.s (.lst (cs.map .int)), .s (.int m), .s (vec fst), .s (vec stp), .s (.int way), .o (.lst (rs.map vec)), .s (.int c), .s (vec g), .s (.int tn)]) ?_ ?_
  ·refine t_dec (fun _ => ?_) (fun _ => ?_)
   ·walk_at "go"
    refine s_within fun a a0 a1 => ?_
    walk_at "go"
    refine s_within fun b b0 b1 => ?_
    walk_at "go"
    exact ⟨(a, b), ⟨⟨a0, a1⟩, b0, b1⟩, rfl⟩
   ·walk_at "go"
    exact ⟨hg, hh.le hm', rfl⟩
  rintro ρ' ⟨g, hg', rfl⟩
  refine s_cut (fun ρ' => ∃ g, Far 1000000000 g /\ ρ' = [.s (.lst (cs.map .int)), .s (.int m), .s (vec fst), .s (vec stp), .s (.int way), .o (.lst (rs.map vec)), .s (.int c), .s (vec g), .s (.int tn)]) ?_ ?_
  ·walk_at "go"
   refine t_dec (fun _ => ?_) (fun _ => ?_)
   ·walk_at "go"
    exact ⟨fst, hf.le hm', rfl⟩
   ·walk_at "go"
    exact ⟨g, hg', rfl⟩
  rintro ρ' ⟨g2, hg2, rfl⟩
  refine s_app (l := []) (own_some rfl ?_)
  walk_at "go"
  refine ⟨by rw [List.length_map]; exact szl' (by omega), Safe.of_noL rfl rfl _, ?_⟩
  walk_at "en"
  refine ⟨rs ++ [g2], _, _, _, fun p hp => ?_, by simp [hlen], by rw [List.map_append]; rfl⟩
  rcases List.mem_append.mp hp with hp | hp
  ·exact hrs p hp
  ·rw [List.mem_singleton.mp hp]; exact hg2
 rintro ρ ⟨rs, x6, x7, x8, hrs, hlen, rfl⟩
 walk_at "go"
 exact q rs hlen hrs
theorem s_far_off {l : List (Int × Int)} {Q : DK} {X : XP} (hz : l.length <= 1000) (hl : ∀ p ∈ l, Far 1000000000 p) (q : ∀ l' : List (Int × Int), l'.length = l.length -> Wb 600 l' -> Q (vecs l')) : f_law_far_off_b901c.run [vecs l] Q X := by
 walk_at "fn"
 walk_at "go"
 refine ⟨by rw [List.length_map]; exact szl' (by omega), ?_⟩
 refine compL_map (g := fun p => vec (p.1 * 10 ^ 64 * 10 ^ 64, p.2 * 10 ^ 64 * 10 ^ 64)) (fun p hp K hK => ?_) ?_
 ·obtain ⟨b1, b2⟩ := (hl p hp).vb (n := 30) (by decide)
  have bt : Bt 213 ((10 : Int) ^ (64 : Int).toNat) := bt_abs (by decide +kernel)
  have q1 : Bt 640 (p.1 * (10 : Int) ^ (64 : Int).toNat) := (Bt.mul b1 bt).le
  have q2 : Bt 640 (p.2 * (10 : Int) ^ (64 : Int).toNat) := (Bt.mul b2 bt).le
  walk_at "go"
  exact hK
 walk_at "go"
 rw [show (l.map fun p => vec (p.1 * 10 ^ 64 * 10 ^ 64, p.2 * 10 ^ 64 * 10 ^ 64)) = (l.map fun p => (p.1 * 10 ^ 64 * 10 ^ 64, p.2 * 10 ^ 64 * 10 ^ 64)).map vec by rw [List.map_map]; rfl]
 refine q _ (by simp) fun p hp => ?_
 obtain ⟨v, hv, rfl⟩ := List.mem_map.mp hp
 obtain ⟨b1, b2⟩ := (hl v hv).vb (n := 30) (by decide)
 have bt : Bt 213 ((10 : Int) ^ 64) := bt_abs (by decide +kernel)
 exact ⟨(Bt.mul (Bt.mul b1 bt) bt).le, (Bt.mul (Bt.mul b2 bt) bt).le⟩
abbrev prD (x : List P × Int) : D := .tup [vecs x.1, .int x.2]
structure Gw (l : List P) : Prop where
 wb : Wb 600 l
 ne : l ≠ []
 len : l.length <= 62
theorem noL_pr (x : List P × Int) : noL (prD x) = true := by
 have := noL_vecs x.1
 show noLs [vecs x.1, .int x.2] = true
 simpa [noLs, noL] using this
theorem noD_pr (x : List P × Int) : noD (prD x) = true := by
 have := noD_vecs x.1
 show noDs [vecs x.1, .int x.2] = true
 simpa [noDs, noD] using this
theorem o_mulL {l : List D} {n : Int} {Q : DK} {X : XP} (h : n <= 100 /\ 0 <= n /\ l.length <= 1000) (q : Q (.lst (List.replicate n.toNat l).flatten)) : pMulL.run [.lst l, .int n] Q X := ⟨h, q⟩
theorem rep_if {p : Prop} [Decidable p] : (List.replicate (Int.toNat (if decide p = true then (1 : Int) else 0)) [D.int 0]).flatten = (if p then [(0 : Int)] else []).map .int := by
 by_cases h : p <;> simp [h]
theorem o_addO {l r : List D} {Q : DK} {X : XP} (h : l.length + r.length <= sizeLine) (q : Q (.lst (l ++ r))) : pAddL.run [.lst l, .lst r] Q X := ⟨h, q⟩
theorem s_free_pairs {cs : List Int} {m : Int} {Q : DK} {X : XP} (hz : cs.length <= 62) (hm : 0 <= m) (hb : Bt 300 m) (q : ∀ ps : List (List P × Int), (∀ x ∈ ps, Gw x.1) -> Q (.lst (ps.map prD))) : f_law_free_pairs_d0d6d.run [.lst (cs.map .int), .int m] Q X := by
 walk_at "fn"
 walk_at "go"
 refine sfi_and (fun x hx => by cases hx) ?_
 walk_at "en"
 walk_at "go"
 refine s_seq (wh_inv (fun ρ => ∃ (ps : List (List P × Int)) (a : Nat) (x4 x5 : B), (∀ x ∈ ps, Gw x.1) /\ ps.length <= a /\ a <= 100 /\ ρ = [.s (.lst (cs.map .int)), .s (.int m), .o (.lst (ps.map prD)), .s (.int (a : Int)), x4, x5]) (fun ρ => match ρ with | [_, _, _, .s (.int a), _, _] => (100 - a).toNat | _ => 0) ⟨[], 0, _, _, fun _ z => by (cases z), by simp, by simp, rfl⟩ ?_)
 rintro ρ ⟨ps, a, x4, x5, hps, hlen, ha, rfl⟩
 walk_at "go"
 rw [List.length_map]
 refine t_dec (fun h => ?_) (fun h => ?_)
 ·have hac : a < cs.length := by omega
  obtain ⟨c, _, eat⟩ := at_any (xs := cs) (i := (a : Int)) (by omega) (by omega)
  walk_at "go"
  refine ix_ok (at_map eat) ?_
  walk_at "go"
  have hs : 0 <= c % 12 /\ c % 12 < 12 := by omega
  generalize c % 12 = sz at *
  rw [List.length_map]
  refine o_mulL ⟨by split <;> omega, by split <;> omega, by simp⟩ ?_
  rw [rep_if, cut_map]
  obtain ⟨sl, hsl, hsl1, hsl2⟩ : ∃ sl, sl = (cs.drop (HT.sIx cs.length 0 (some ((a : Int) + 1)))).take (HT.sIx cs.length cs.length (some ((a : Int) + 1 + (1 + sz))) - HT.sIx cs.length 0 (some ((a : Int) + 1))) /\ sl.length <= 13 /\ ((a : Int) + 1 ≠ cs.length -> sl ≠ []) := by
   have e1 : HT.sIx cs.length 0 (some ((a : Int) + 1)) = a + 1 := by
    show (if (a : Int) + 1 < 0 then ((a : Int) + 1 + (cs.length : Int)).toNat else min ((a : Int) + 1).toNat cs.length) = _
    rw [if_neg (by omega)]; omega
   have e2 : HT.sIx cs.length cs.length (some ((a : Int) + 1 + (1 + sz))) = min (a + 1 + (1 + sz.toNat)) cs.length := by
    show (if (a : Int) + 1 + (1 + sz) < 0 then ((a : Int) + 1 + (1 + sz) + (cs.length : Int)).toNat else min ((a : Int) + 1 + (1 + sz)).toNat cs.length) = _
    rw [if_neg (by omega)]; omega
   refine ⟨_, rfl, ?_, fun z w => ?_⟩
   ·rw [e1, e2, List.length_take]; omega
   ·have := congrArg List.length w
    rw [e1, e2, List.length_take, List.length_drop, List.length_nil] at this
    omega
  rw [<- hsl]
  clear hsl
  have hrow : sl ++ (if (a : Int) + 1 = cs.length then [(0 : Int)] else []) ≠ [] /\ (sl ++ (if (a : Int) + 1 = cs.length then [(0 : Int)] else [])).length <= 14 := by
   split
   ·simp; omega
   ·rename_i z; simp only [List.append_nil]; exact ⟨hsl2 z, by omega⟩
  refine o_addO (by rw [<- List.length_append, <- List.map_append, List.length_map]; exact szl (by omega)) ?_
  rw [<- List.map_append]
  generalize sl ++ (if (a : Int) + 1 = cs.length then [(0 : Int)] else []) = rows at *
  refine sfi_and (fun x hx => ?_) ?_
  ·obtain ⟨y, _, rfl⟩ := List.mem_map.mp hx
   exact Safe.of_noL rfl rfl _
  walk_at "en"
  refine s_seq (s_app (l := []) (own_some rfl ?_))
  walk_at "go"
  refine ⟨by rw [List.length_map]; exact szl' (by omega), ?_⟩
  refine compL_all (g := vec) (P := fun _ p => Far m p) (fun c _ K hK => ?_) fun ys hyl hy => ?_
  ·walk_at "go"
   exact s_digits hm hb hK
  walk_at "go"
  refine ix_ok (at_map eat) ?_
  walk_at "go"
  refine ⟨by rw [List.length_map]; exact szl' (by omega), Safe.of_noL (noL_pr (ys, c / 12)) (noD_pr (ys, c / 12)) _, ?_⟩
  walk_at "en"
  walk_at "go"
  refine ⟨⟨ps ++ [(ys, c / 12)], a + 1 + (1 + sz.toNat), .s (.int (1 + sz)), .o (.lst (rows.map .int)), fun x hx => ?_, by simp; omega, by omega, ?_⟩, ?_⟩
  ·rcases List.mem_append.mp hx with hx | hx
   ·exact hps x hx
   ·rw [List.mem_singleton.mp hx]
    refine ⟨fun p hp => ?_, fun z => ?_, by show ys.length <= 62; omega⟩
    ·obtain ⟨_, _, hf⟩ := hy p hp
     have b3 := hb.abs
     obtain ⟨⟨f1, f2⟩, f3, f4⟩ := hf
     exact ⟨Bt.le (Bt.of_abs hb (by omega)), Bt.le (Bt.of_abs hb (by omega))⟩
    ·have := congrArg List.length z
     rw [hyl] at this
     exact hrow.1 (List.length_eq_zero_iff.mp this)
  ·rw [List.map_append, show ((a + 1 + (1 + sz.toNat) : Nat) : Int) = (a : Int) + 1 + (1 + sz) by omega]
   rfl
  ·show (100 - ((a : Int) + 1 + (1 + sz))).toNat < (100 - (a : Int)).toNat
   omega
 ·walk_at "go"
  exact q ps hps
theorem cut_on {α : Type} {f : α -> D} {l : List α} {k : Int} (h : 0 <= k) : cutD (l.map f) (some k) none = (l.drop k.toNat).map f := by
 have hs : HT.sIx l.length 0 (some k) = min k.toNat l.length := by
  show (if k < 0 then (k + (l.length : Int)).toNat else min k.toNat l.length) = _
  rw [if_neg (by omega)]
 rw [cut_map, hs]
 show ((l.drop (min k.toNat l.length)).take (l.length - min k.toNat l.length)).map f = _
 rw [List.take_of_length_le (by simp)]
 rcases Nat.le_total k.toNat l.length with z | z
 ·rw [Nat.min_eq_left z]
 ·rw [Nat.min_eq_right z, List.drop_eq_nil_of_le z, List.drop_length]
structure Fw (l : List P) : Prop where
 far : ∀ p ∈ l, Far 1000000000 p
 ne : l ≠ []
 len : l.length <= 62
theorem Fw.gw {l : List P} (h : Fw l) : Gw l := ⟨fun p hp => ((h.far p hp).vb (n := 30) (by decide)).le, h.ne, h.len⟩
theorem rows_len {cs : List Int} {a n : Nat} (h : a < cs.length) (hn : 1 <= n) : (cs.drop a).take n ≠ [] /\ ((cs.drop a).take n).length <= cs.length := by
 refine ⟨fun w => ?_, by simp; omega⟩
 have := congrArg List.length w
 rw [List.length_take, List.length_drop, List.length_nil] at this
 omega
theorem s_pairs {ns : List Int} {Q : DK} {X : XP} (hns : ns.length <= 63) (q : ∀ ps : List (List P × Int), (∀ x ∈ ps, Gw x.1) -> Q (.lst (ps.map prD))) : f_law_pairs_3ea81.run [.lst (ns.map .int)] Q X := by
 walk_at "fn"
 walk_at "go"
 refine s_cell_at (by decide) fun hd => ?_
 walk_at "go"
 rw [List.length_map]
 refine o_mulL ⟨by split <;> omega, by split <;> omega, by simp⟩ ?_
 rw [rep_if, cut_on (by decide)]
 refine o_addL (by rw [<- List.length_append, <- List.map_append, List.length_map]; exact szl (by simp; split <;> simp <;> omega)) ?_
 rw [<- List.map_append]
 have hcs : ns.drop (1 : Int).toNat ++ (if (ns.length : Int) < 2 then [(0 : Int)] else []) ≠ [] /\ (ns.drop (1 : Int).toNat ++ (if (ns.length : Int) < 2 then [(0 : Int)] else [])).length <= 62 := by
  have e1 : (1 : Int).toNat = 1 := rfl
  rw [e1]
  split
  ·simp; omega
  ·rename_i z
   rw [List.append_nil]
   refine ⟨fun w => ?_, by simp; omega⟩
   have := congrArg List.length w
   simp at this
   omega
 generalize ns.drop (1 : Int).toNat ++ (if (ns.length : Int) < 2 then [(0 : Int)] else []) = cs at *
 obtain ⟨hc0, hcz⟩ := hcs
 have hcp := List.length_pos_iff.mpr hc0
 walk_at "go"
 refine t_dec (fun _ => ?_) (fun _ => ?_)
 ·walk_at "go"
  refine menu (ns := [12, 10 ^ 9, 10 ^ 60]) (by omega) (by show hd / 2 % 3 < 3; omega) fun m hm => ?_
  have hm' : 0 <= m /\ Bt 300 m := by
   simp only [List.mem_cons, List.not_mem_nil, or_false] at hm
   rcases hm with rfl | rfl | rfl <;> exact ⟨by decide, bt_abs (by decide +kernel)⟩
  exact s_free_pairs hcz hm'.1 hm'.2 q
 walk_at "go"
 refine s_mix (bt_abs (by decide)) fun r r0 r1 => ?_
 walk_at "go"
 refine menu (ns := [3, 3, 12, 12, 40, 10 ^ 9]) (by omega) (by show r % 6 < 6; omega) fun m hm => ?_
 have hm' : 0 <= m /\ m <= 1000000000 := by
  simp only [List.mem_cons, List.not_mem_nil, or_false] at hm
  omega
 clear hm
 walk_at "go"
 refine sfi_and (fun x hx => by cases hx) ?_
 walk_at "en"
 walk_at "go"
 refine wh_inv (fun ρ => ∃ (ps : List (List P × Int)) (a : Nat) (x6 : B), (∀ x ∈ ps, Fw x.1) /\ ps.length <= a /\ a <= 100 /\ ρ = [.s (.lst (ns.map .int)), .s (.int hd), .s (.lst (cs.map .int)), .s (.int m), .o (.lst (ps.map prD)), .s (.int (a : Int)), x6]) (fun ρ => match ρ with | [_, _, _, _, _, .s (.int a), _] => (100 - a).toNat | _ => 0) ⟨[], 0, _, fun _ z => by (cases z), by simp, by simp, rfl⟩ ?_
 rintro ρ ⟨ps, a, x6, hps, hlen, ha, rfl⟩
 walk_at "go"
 rw [List.length_map]
 refine t_dec (fun h => ?_) (fun h => ?_)
 ·have hac : a < cs.length := by omega
  obtain ⟨c, _, eat⟩ := at_any (xs := cs) (i := (a : Int)) (by omega) (by omega)
  walk_at "go"
  refine ix_ok (at_map eat) ?_
  walk_at "go"
  refine s_mix (bt_abs (by decide)) fun u u0 u1 => ?_
  walk_at "go"
  refine ix_ok (at_map eat) ?_
  walk_at "go"
  refine s_mix (bt_abs (by decide)) fun w w0 w1 => ?_
  walk_at "go"
  refine menu (ns := [12, 4, 3, 5]) (by omega) (by show w % 4 < 4; omega) fun z hz => ?_
  have hz' : 0 < z /\ z <= 12 := by
   simp only [List.mem_cons, List.not_mem_nil, or_false] at hz
   omega
  clear hz
  refine o_modP hz'.1 ?_
  have hs0 := Int.emod_nonneg u (show z ≠ 0 by omega)
  have hs1 := Int.emod_lt_of_pos u hz'.1
  generalize u % z = sz at *
  walk_at "go"
  refine s_app (l := []) (own_some rfl ?_)
  walk_at "go"
  rw [cut_map]
  have e1 : HT.sIx cs.length 0 (some (a : Int)) = a := by
   show (if (a : Int) < 0 then ((a : Int) + (cs.length : Int)).toNat else min (a : Int).toNat cs.length) = _
   rw [if_neg (by omega)]; omega
  have e2 : HT.sIx cs.length cs.length (some ((a : Int) + (1 + sz))) = min (a + (1 + sz.toNat)) cs.length := by
   show (if (a : Int) + (1 + sz) < 0 then ((a : Int) + (1 + sz) + (cs.length : Int)).toNat else min ((a : Int) + (1 + sz)).toNat cs.length) = _
   rw [if_neg (by omega)]; omega
  rw [e1, e2]
  obtain ⟨rw0, rwl⟩ := rows_len (cs := cs) (a := a) (n := min (a + (1 + sz.toNat)) cs.length - a) hac (by omega)
  generalize (cs.drop a).take (min (a + (1 + sz.toNat)) cs.length - a) = rows at *
  refine s_wind rw0 (by omega) hm'.1 hm'.2 fun l hl hf => ?_
  walk_at "go"
  refine ix_ok (at_map eat) ?_
  walk_at "go"
  refine ⟨by rw [List.length_map]; exact szl' (by omega), Safe.of_noL (noL_pr (l, c)) (noD_pr (l, c)) _, ?_⟩
  walk_at "en"
  walk_at "go"
  refine ⟨⟨ps ++ [(l, c)], a + (1 + sz.toNat), .s (.int (1 + sz)), fun x hx => ?_, by simp; omega, by omega, ?_⟩, ?_⟩
  ·rcases List.mem_append.mp hx with hx | hx
   ·exact hps x hx
   ·rw [List.mem_singleton.mp hx]
    exact ⟨hf, fun z => rw0 (List.length_eq_zero_iff.mp (by rw [<- hl]; exact congrArg List.length z)), by show l.length <= 62; omega⟩
  ·rw [List.map_append, show ((a + (1 + sz.toNat) : Nat) : Int) = (a : Int) + (1 + sz) by omega]
   rfl
  ·show (100 - ((a : Int) + (1 + sz))).toNat < (100 - (a : Int)).toNat
   omega
 clear h
 have hpl : ps.length <= 100 := by omega
 clear hlen
 obtain ⟨c0, _, e0⟩ := at_any (xs := cs) (i := 0) (by decide) (by omega)
 walk_at "go"
 refine ix_ok (at_map e0) ?_
 walk_at "go"
 refine s_mix (bt_abs (by decide)) fun u u0 u1 => ?_
 walk_at "go"
 refine t_cut (fun ρ' => ∃ ps : List (List P × Int), (∀ x ∈ ps, Fw x.1) /\ ps.length <= 101 /\ ρ' = [.s (.lst (ns.map .int)), .s (.int hd), .s (.lst (cs.map .int)), .s (.int m), .o (.lst (ps.map prD)), .s (.int (a : Int)), x6]) ?_ ?_
 ·refine t_dec (fun _ => ?_) (fun _ => ?_)
  ·walk_at "go"
   refine s_wind hc0 (by omega) hm'.1 hm'.2 fun l hl hf => ?_
   walk_at "go"
   refine ix_ok (at_map e0) ?_
   walk_at "go"
   refine o_addO (l := [prD (l, c0 + 1)]) (by simp; exact szl (by omega)) ?_
   refine sfi_and (fun x hx => ?_) ?_
   ·rcases List.mem_append.mp hx with hx | hx
    ·rw [List.mem_singleton.mp hx]
     exact Safe.of_noL (noL_pr _) (noD_pr _) _
    ·obtain ⟨y, _, rfl⟩ := List.mem_map.mp hx
     exact Safe.of_noL (noL_pr _) (noD_pr _) _
   walk_at "en"
   refine ⟨(l, c0 + 1) :: ps, fun x hx => ?_, by simp; omega, rfl⟩
   rcases List.mem_cons.mp hx with rfl | hx
   ·exact ⟨hf, fun z => hc0 (List.length_eq_zero_iff.mp (by rw [<- hl]; exact congrArg List.length z)), by show l.length <= 62; omega⟩
   ·exact hps x hx
  ·walk_at "go"
   exact ⟨ps, hps, by omega, rfl⟩
 clear hps hpl ps
 rintro ρ' ⟨ps, hps, hpl, rfl⟩
 walk_at "go"
 refine ix_ok (at_map e0) ?_
 walk_at "go"
 refine s_mix (bt_abs (by decide)) fun v v0 v1 => ?_
 walk_at "go"
 refine t_dec (fun _ => ?_) (fun _ => ?_)
 ·walk_at "go"
  refine ⟨by rw [List.length_map]; exact szl' (by omega), ?_⟩
  refine compL_all (g := prD) (P := fun _ y => Gw y.1) (fun x hx K hK => ?_) fun ys hyl hy => ?_
  ·have := hps x hx
   walk_at "go"
   refine s_far_off (by have := this.len; omega) this.far fun l' hl' hb' => ?_
   walk_at "go"
   exact hK (l', x.2) ⟨hb', fun z => this.ne (List.length_eq_zero_iff.mp (by rw [<- hl']; exact congrArg List.length z)), by show l'.length <= 62; rw [hl']; exact this.len⟩
  refine sfi_and (fun x hx => ?_) ?_
  ·obtain ⟨y, _, rfl⟩ := List.mem_map.mp hx
   exact Safe.of_noL (noL_pr _) (noD_pr _) _
  walk_at "en"
  walk_at "go"
  refine q ys fun y hy' => ?_
  obtain ⟨_, _, h⟩ := hy y hy'
  exact h
 ·walk_at "go"
  exact q ps fun x hx => (hps x hx).gw
end Pu
set_option Elab.async false
set_option linter.all false
namespace Pu
open PySem L2
def f_added : Fn := Fn.mkN 2 7 (.seq (.set 2 (.op f_common_divisor [(.op pIx [(.v 0), (.c (.int 1))]), (.op pIx [(.v 1), (.c (.int 1))])]))
 (.seq (.set 3 (.op pFdiv [(.op pIx [(.v 1), (.c (.int 1))]), (.v 2)]))
 (.seq (.set 4 (.op pFdiv [(.op pIx [(.v 0), (.c (.int 1))]), (.v 2)]))
 (.seq (.set 5 (.op pAdd [(.op pMulI [(.op pIx [(.v 0), (.c (.int 0))]), (.v 3)]), (.op pMulI [(.op pIx [(.v 1), (.c (.int 0))]), (.v 4)])]))
 (.seq (.set 6 (.op f_common_divisor [(.v 2), (.v 5)]))
 (.ret (.op pTup [(.op pFdiv [(.v 5), (.v 6)]), (.op pMulI [(.v 4), (.op pFdiv [(.op pIx [(.v 1), (.c (.int 1))]), (.v 6)])])])))))))
def f_lowest_place : Fn := Fn.mkN 3 4 (.seq (.set 3 (.op f_common_divisor [(.op f_common_divisor [(.v 2), (.v 0)]), (.v 1)]))
 (.ret (.op pTup [(.op pFdiv [(.v 0), (.v 3)]), (.op pFdiv [(.v 1), (.v 3)]), (.op pFdiv [(.v 2), (.v 3)])])))
def f_place_added : Fn := Fn.mkN 2 8 (.seq (.set 2 (.op f_common_divisor [(.op pIx [(.v 0), (.c (.int 2))]), (.op pIx [(.v 1), (.c (.int 2))])]))
 (.seq (.set 3 (.op pFdiv [(.op pIx [(.v 1), (.c (.int 2))]), (.v 2)]))
 (.seq (.set 4 (.op pFdiv [(.op pIx [(.v 0), (.c (.int 2))]), (.v 2)]))
 (.seq (.set 5 (.op pAdd [(.op pMulI [(.op pIx [(.v 0), (.c (.int 0))]), (.v 3)]), (.op pMulI [(.op pIx [(.v 1), (.c (.int 0))]), (.v 4)])]))
 (.seq (.set 6 (.op pAdd [(.op pMulI [(.op pIx [(.v 0), (.c (.int 1))]), (.v 3)]), (.op pMulI [(.op pIx [(.v 1), (.c (.int 1))]), (.v 4)])]))
 (.seq (.set 7 (.op f_common_divisor [(.op f_common_divisor [(.v 2), (.v 5)]), (.v 6)]))
 (.ret (.op pTup [(.op pFdiv [(.v 5), (.v 7)]), (.op pFdiv [(.v 6), (.v 7)]), (.op pMulI [(.v 4), (.op pFdiv [(.op pIx [(.v 1), (.c (.int 2))]), (.v 7)])])]))))))))
def f_place_times : Fn := Fn.mkN 2 2 (.ret (.op f_lowest_place [(.op pMulI [(.op pIx [(.v 0), (.c (.int 0))]), (.op pIx [(.v 1), (.c (.int 0))])]), (.op pMulI [(.op pIx [(.v 0), (.c (.int 1))]), (.op pIx [(.v 1), (.c (.int 0))])]), (.op pMulI [(.op pIx [(.v 0), (.c (.int 2))]), (.op pIx [(.v 1), (.c (.int 1))])])]))
def f_is_share : Fn := Fn.mkN 1 1 (.ret (.and (.op pGt [(.op pIx [(.v 0), (.c (.int 0))]), (.c (.int 0))]) (.and (.op pGt [(.op pIx [(.v 0), (.c (.int 1))]), (.c (.int 0))]) (.op pEq [(.op f_common_divisor [(.op pIx [(.v 0), (.c (.int 0))]), (.op pIx [(.v 0), (.c (.int 1))])]), (.c (.int 1))]))))
def f_are_shares : Fn := Fn.mkN 2 5 (.seq (.set 2 (.op pNeg [(.c (.int 1))]))
 (.seq (.for_ [] (.tp [3, 4]) (.v 1) (.seq (.ifs (.or (.op pLe [(.v 3), (.v 2)]) (.or (.op pGeI [(.v 3), (.op pLen [(.v 0)])]) (.not (.op f_is_share [(.v 4)])))) (.ret (.c (.bl false))) .skip)
 (.set 2 (.v 3))))
 (.ret (.c (.bl true)))))
def f_shares_sum : Fn := Fn.mkN 1 4 (.seq (.set 1 (.op pTup [(.c (.int 0)), (.c (.int 1))]))
 (.seq (.for_ [] (.tp [2, 3]) (.v 0) (.set 1 (.op f_added [(.v 1), (.v 3)])))
 (.ret (.v 1))))
def f_shares_end : Fn := Fn.mk' 2 6 (.seq (.ifs (.not (.op f_are_shares [(.v 0), (.v 1)])) (.raise "NoShares") .skip)
 (.seq (.set 2 (.op pTup [(.c (.int 0)), (.c (.int 0)), (.c (.int 1))]))
 (.seq (.calm (.for_ [] (.tp [3, 4]) (.v 1) (.seq (.set 5 (.op pIx [(.v 0), (.v 3)]))
 (.set 2 (.op f_place_added [(.v 2), (.op f_place_times [(.op pTup [(.op pIx [(.v 5), (.c (.int 0))]), (.op pIx [(.v 5), (.c (.int 1))]), (.c (.int 1))]), (.v 4)])])))))
 (.ret (.v 2)))))
def f_law_common_d1171 : Fn := Fn.mkN 2 2 (.seq (.wh (.op pNe [(.v 1), (.c (.int 0))]) (.par2 0 1 [(.v 1), (.op pMod [(.v 0), (.v 1)])]))
 (.ret (.v 0)))
def f_law_lowest_7d340 : Fn := Fn.mkN 2 3 (.seq (.set 2 (.op f_law_common_d1171 [(.op pAbs [(.v 0)]), (.v 1)]))
 (.ret (.op pTup [(.op pFdiv [(.v 0), (.v 2)]), (.op pFdiv [(.v 1), (.v 2)])])))
def f_law_reduced_fa2e6 : Fn := Fn.mkN 3 4 (.seq (.set 3 (.op f_law_common_d1171 [(.op f_law_common_d1171 [(.op pAbs [(.v 0)]), (.op pAbs [(.v 1)])]), (.v 2)]))
 (.ret (.op pTup [(.op pFdiv [(.v 0), (.v 3)]), (.op pFdiv [(.v 1), (.v 3)]), (.op pFdiv [(.v 2), (.v 3)])])))
def f_law_end_c275c : Fn := Fn.mkN 2 7 (.seq (.set 2 (.c (.int 1)))
 (.seq (.for_ [] (.tp [3, 4]) (.v 1) (.set 2 (.op pMulI [(.v 2), (.op pIx [(.v 4), (.c (.int 1))])])))
 (.seq (.set 5 (.op pSum [(.comp 2 [2, 0] (.tp [0, 1]) (.v 1) none (.op pMulI [(.op pMulI [(.op pIx [(.op pIx [(.v 3), (.v 0)]), (.c (.int 0))]), (.op pIx [(.v 1), (.c (.int 0))])]), (.op pFdiv [(.v 2), (.op pIx [(.v 1), (.c (.int 1))])])]))]))
 (.seq (.set 6 (.op pSum [(.comp 2 [2, 0] (.tp [0, 1]) (.v 1) none (.op pMulI [(.op pMulI [(.op pIx [(.op pIx [(.v 3), (.v 0)]), (.c (.int 1))]), (.op pIx [(.v 1), (.c (.int 0))])]), (.op pFdiv [(.v 2), (.op pIx [(.v 1), (.c (.int 1))])])]))]))
 (.ret (.op f_law_reduced_fa2e6 [(.v 5), (.v 6), (.v 2)]))))))
def f_law_together_9214a : Fn := Fn.mkN 1 4 (.seq (.set 1 (.c (.int 1)))
 (.seq (.for_ [] (.tp [2, 3]) (.v 0) (.set 1 (.op pMulI [(.v 1), (.op pIx [(.v 3), (.c (.int 1))])])))
 (.ret (.op f_law_lowest_7d340 [(.op pSum [(.comp 2 [1] (.tp [0, 1]) (.v 0) none (.op pMulI [(.op pIx [(.v 1), (.c (.int 0))]), (.op pFdiv [(.v 2), (.op pIx [(.v 1), (.c (.int 1))])])]))]), (.v 1)]))))
def f_law_any_shares_ef24c : Fn := Fn.mkN 2 7 (.seq (.own 2 (.op pLst []))
 (.seq (.set 3 (.op pFdiv [(.v 1), (.c (.int 3))]))
 (.seq (.forr [(.op pLen [(.v 0)])] (.nm 4) (.seq (.set 5 (.op pIx [(.op pLst [(.c (.int 3)), (.c (.int 60)), (.op pPow [(.c (.int 10)), (.c (.int 20))])]), (.op pMod [(.op f_law_mix_a2b94 [(.v 1), (.c (.int 150))]), (.c (.int 3))])]))
 (.ifs (.op pGt [(.op pMod [(.op f_law_mix_a2b94 [(.v 1), (.op pAdd [(.c (.int 160)), (.v 4)])]), (.c (.int 3))]), (.c (.int 0))]) (.seq (.set 6 (.op f_law_lowest_7d340 [(.op pAdd [(.c (.int 1)), (.op pMod [(.op f_law_mix_a2b94 [(.v 1), (.op pAdd [(.c (.int 180)), (.v 4)])]), (.v 5)])]), (.op pAdd [(.c (.int 1)), (.op pMod [(.op f_law_mix_a2b94 [(.v 1), (.op pAdd [(.c (.int 200)), (.v 4)])]), (.v 5)])])]))
 (.seq (.ifs (.op pEq [(.op pMod [(.v 1), (.c (.int 3))]), (.c (.int 1))]) (.seq (.set 6 (.op f_law_lowest_7d340 [(.op pAdd [(.c (.int 1)), (.op pMod [(.v 3), (.op pPow [(.c (.int 10)), (.c (.int 20))])])]), (.op pAdd [(.c (.int 1)), (.op pMod [(.op pFdiv [(.v 3), (.op pPow [(.c (.int 10)), (.c (.int 20))])]), (.op pPow [(.c (.int 10)), (.c (.int 20))])])])]))
 (.set 3 (.op pFdiv [(.v 3), (.op pPow [(.c (.int 10)), (.c (.int 40))])]))) .skip)
 (.app 2 (.op pTup [(.v 4), (.v 6)])))) .skip)))
 (.ret (.op pTupOf [(.v 2)])))))
def f_law_592f6 : Fn := Fn.mk' 1 4 (.seq (.calm (.for_ [] (.tp [1, 2]) (.op f_law_pairs_3ea81 [(.v 0)]) (.seq (.set 3 (.op f_law_any_shares_ef24c [(.v 1), (.v 2)]))
 (.seq (.ifs (.not (.op f_law_same_a1d8f [(.op f_shares_end [(.v 1), (.v 3)]), (.op f_law_end_c275c [(.v 1), (.v 3)])])) (.ret (.c (.bl false))) .skip)
 (.seq (.ifs (.not (.op f_law_same_a1d8f [(.op f_shares_sum [(.v 3)]), (.op f_law_together_9214a [(.v 3)])])) (.ret (.c (.bl false))) .skip)
 (.ifs (.not (.op f_law_same_a1d8f [(.op f_shares_end [(.v 1), (.op pTup [])]), (.op pTup [(.c (.int 0)), (.c (.int 0)), (.c (.int 1))])])) (.ret (.c (.bl false))) .skip))))))
 (.ret (.op f_law_same_a1d8f [(.op f_shares_sum [(.op pTup [])]), (.op pTup [(.c (.int 0)), (.c (.int 1))])])))
end Pu
set_option Elab.async false
set_option linter.all false
set_option maxRecDepth 100000
set_option maxHeartbeats 4000000
namespace Pu
open PySem L2 Mth
structure Pl (x y b u v t : Int) : Prop where
 pos : 0 < t
 cop : Int.gcd ((Int.gcd u v : Nat) : Int) t = 1
 cx : u * b = x * t
 cy : v * b = y * t
theorem Pl.of {x y b u v t : Int} (h : Plc x y b u v t) : Pl x y b u v t := ⟨by have := h.pos; lia, h.cop, h.cx, h.cy⟩
theorem dvd_both {u v t b : Int} (hc : Int.gcd ((Int.gcd u v : Nat) : Int) t = 1) (h1 : t ∣ u * b) (h2 : t ∣ v * b) : t ∣ b := by
 have a1 : t.natAbs ∣ u.natAbs * b.natAbs := by rw [<- Int.natAbs_mul]; exact Int.natAbs_dvd_natAbs.mpr h1
 have a2 : t.natAbs ∣ v.natAbs * b.natAbs := by rw [<- Int.natAbs_mul]; exact Int.natAbs_dvd_natAbs.mpr h2
 have a3 := Nat.dvd_gcd a1 a2
 rw [Nat.gcd_mul_right] at a3
 have hc' : Nat.Coprime t.natAbs (Nat.gcd u.natAbs v.natAbs) := by
  rw [gcd_cast, Nat.gcd_comm] at hc
  exact hc
 exact Int.natAbs_dvd_natAbs.mp (hc'.dvd_of_dvd_mul_left a3)
theorem Pl.dvd {x y b u v t : Int} (h : Pl x y b u v t) : t ∣ b := dvd_both h.cop ⟨x, by rw [h.cx, Int.mul_comm]⟩ ⟨y, by rw [h.cy, Int.mul_comm]⟩
theorem Pl.eq {x y b u v t u' v' t' : Int} (hb : 0 < b) (h : Pl x y b u v t) (k : Pl x y b u' v' t') : u = u' /\ v = v' /\ t = t' := by
 have hb0 : b ≠ 0 := by lia
 have cr : ∀ {u u' x : Int}, u * b = x * t -> u' * b = x * t' -> u * t' = u' * t := fun {u u' x} e1 e2 => by
  apply Int.eq_of_mul_eq_mul_right hb0
  calc u * t' * b = (u * b) * t' := by grind
   _ = (u' * b) * t := by rw [e1, e2]; grind
   _ = u' * t * b := by grind
 have c1 := cr h.cx k.cx
 have c2 := cr h.cy k.cy
 have d1 : t ∣ t' := dvd_both h.cop ⟨u', by rw [c1, Int.mul_comm]⟩ ⟨v', by rw [c2, Int.mul_comm]⟩
 have d2 : t' ∣ t := dvd_both k.cop ⟨u, by rw [<- c1, Int.mul_comm]⟩ ⟨v, by rw [<- c2, Int.mul_comm]⟩
 have e : t = t' := Int.dvd_antisymm (by have := h.pos; lia) (by have := k.pos; lia) d1 d2
 subst e
 have ht : t ≠ 0 := by have := h.pos; lia
 exact ⟨Int.eq_of_mul_eq_mul_right ht c1, Int.eq_of_mul_eq_mul_right ht c2, rfl⟩
theorem Pl.bt {x y b u v t : Int} {n m : Nat} (hb : 0 < b) (h : Pl x y b u v t) (bb : Bt n b) (bx : Bt m x) (bY : Bt m y) : Bt n t /\ Bt m u /\ Bt m v := by
 obtain ⟨k, hk⟩ := h.dvd
 have ht := h.pos
 have hk1 : 0 < k := by
  rcases Int.lt_or_le 0 k with z | z
  ·exact z
  ·have := Int.mul_nonpos_of_nonneg_of_nonpos (Int.le_of_lt ht) z
   lia
 have le : ∀ {u x : Int}, u * b = x * t -> u.natAbs <= x.natAbs := fun {u x} e => by
  have : u * k = x := by
   apply Int.eq_of_mul_eq_mul_right (show t ≠ 0 by lia)
   rw [<- e, hk]
   grind
  rw [<- this, Int.natAbs_mul]
  exact Nat.le_mul_of_pos_right _ (by lia)
 refine ⟨bb.of_abs ?_, bx.of_abs (le h.cx), bY.of_abs (le h.cy)⟩
 rw [hk, Int.natAbs_mul]
 exact Nat.le_mul_of_pos_right _ (by lia)
theorem Pl.step {x y b u v t a c w p q vx vy u' v' t' : Int} (hb : 0 < b) (hq : 0 < q) (h : Pl x y b u v t) (k : Pl (vx * p) (vy * p) q a c w) (s : Pl (u * w + a * t) (v * w + c * t) (t * w) u' v' t') :
  Pl (x * q + vx * p * b) (y * q + vy * p * b) (b * q) u' v' t' := by
 have htw : t * w ≠ 0 := by have := Int.mul_pos h.pos k.pos; lia
 have go : ∀ {u' u a x vx : Int}, u' * (t * w) = (u * w + a * t) * t' -> u * b = x * t -> a * q = vx * p * w -> u' * (b * q) = (x * q + vx * p * b) * t' := fun {u' u a x vx} e1 e2 e3 => by
  apply Int.eq_of_mul_eq_mul_right htw
  calc u' * (b * q) * (t * w) = (u' * (t * w)) * (b * q) := by grind
   _ = ((u * b) * (w * q) + (a * q) * (t * b)) * t' := by rw [e1]; grind
   _ = (x * q + vx * p * b) * t' * (t * w) := by rw [e2, e3]; grind
 exact ⟨s.pos, s.cop, go s.cx h.cx k.cx, go s.cy h.cy k.cy⟩
theorem abs_eq (a : Int) : (if a < 0 then -a else a) = (a.natAbs : Int) := by split <;> lia
theorem s_common {a b : Int} {Q : DK} {X : XP} (q : Q (.int ((Int.gcd a b : Nat) : Int))) : f_common_divisor.run [.int a, .int b] Q X := by
 walk_at "fn"
 walk_at "go"
 rw [abs_eq, abs_eq]
 refine wh_inv (fun ρ => ∃ (g s : Nat) (x : B), Nat.gcd g s = Int.gcd a b /\ ρ = [.s (.int a), .s (.int b), .s (.int (g : Int)), .s (.int (s : Int)), x]) (fun ρ => match ρ with | [_, _, _, .s (.int s), _] => s.toNat | _ => 0) ⟨a.natAbs, b.natAbs, _, rfl, rfl⟩ ?_
 rintro ρ ⟨g, s, x, e, rfl⟩
 walk_at "go"
 refine t_not (t_dec (fun z => ?_) (fun z => ?_))
 ·walk_at "go"
  have : s = 0 := by lia
  subst this
  rw [Nat.gcd_zero_right] at e
  rw [e]
  exact q
 ·walk_at "go"
  have hm : (g : Int) % (s : Int) = ((g % s : Nat) : Int) := by simp
  refine ⟨⟨s, g % s, _, by rw [<- e, Nat.gcd_comm g s, Nat.gcd_rec s g, Nat.gcd_comm], by rw [hm]⟩, ?_⟩
  show ((g : Int) % (s : Int)).toNat < ((s : Nat) : Int).toNat
  rw [hm]
  have := Nat.mod_lt g (show 0 < s by lia)
  lia
theorem s_par2 {i j : Nat} {es : List Ex} {ρ : Pu.Env} {N : Pu.Env -> Prop} {Q : DK} {X : XP} (q : runs es (vis ρ) (fun ds => [i, j].length = ds.length /\ N (setAll [i, j] ds ρ)) X) : (Sm.par2 i j es).run ρ N Q X := q
theorem s_lcommon {a b : Nat} {Q : DK} {X : XP} (q : Q (.int ((Nat.gcd a b : Nat) : Int))) : f_law_common_d1171.run [.int (a : Int), .int (b : Int)] Q X := by
 walk_at "fn"
 refine s_seq (wh_inv (fun ρ => ∃ g s : Nat, Nat.gcd g s = Nat.gcd a b /\ ρ = [.s (.int (g : Int)), .s (.int (s : Int))]) (fun ρ => match ρ with | [_, .s (.int s)] => s.toNat | _ => 0) ⟨a, b, rfl, rfl⟩ ?_)
 rintro ρ ⟨g, s, e, rfl⟩
 walk_at "go"
 refine t_not (t_dec (fun z => ?_) (fun z => ?_))
 ·walk_at "go"
  have : s = 0 := by lia
  subst this
  rw [Nat.gcd_zero_right] at e
  rw [e]
  exact q
 ·refine s_par2 ?_
  walk_at "en"
  walk_at "go"
  refine ⟨rfl, ?_⟩
  have hm : (g : Int) % (s : Int) = ((g % s : Nat) : Int) := by simp
  unfold setAll setAll setAll
  walk_at "en"
  refine ⟨⟨s, g % s, by rw [<- e, Nat.gcd_comm g s, Nat.gcd_rec s g, Nat.gcd_comm], by rw [hm]⟩, ?_⟩
  show ((g : Int) % (s : Int)).toNat < ((s : Nat) : Int).toNat
  rw [hm]
  have := Nat.mod_lt g (show 0 < s by lia)
  lia
theorem s_llow {t b : Int} {Q : DK} {X : XP} (hb : 0 < b) (bb : Bt 8000 b) (q : Q (.tup [.int (t / (Int.gcd t b : Int)), .int (b / (Int.gcd t b : Int))])) : f_law_lowest_7d340.run [.int t, .int b] Q X := by
 obtain ⟨g0, _, e, _, _⟩ := div_gcd (t := t) hb
 have bg : Bt 9000 (Int.gcd t b : Int) := Bt.le (bb.of_abs (by
  have := Nat.le_of_dvd (by lia) (Int.gcd_dvd_natAbs_right t b)
  lia))
 walk_at "fn"
 walk_at "go"
 rw [abs_eq, show b = (b.natAbs : Int) by lia]
 refine s_lcommon ?_
 rw [show (b.natAbs : Int) = b by lia]
 show Safe _ _ /\ _
 rw [show ((Nat.gcd t.natAbs b.natAbs : Nat) : Int) = (Int.gcd t b : Int) from rfl]
 generalize (Int.gcd t b : Int) = g at *
 walk_at "go"
 exact q
theorem s_lred {x y b : Int} {Q : DK} {X : XP} (hb : 0 < b) (bb : Bt 8000 b) (q : ∀ u v t, Pl x y b u v t -> Q (.tup [.int u, .int v, .int t])) : f_law_reduced_fa2e6.run [.int x, .int y, .int b] Q X := by
 have hg : ((Nat.gcd (Nat.gcd x.natAbs y.natAbs) b.natAbs : Nat) : Int) = g3 x y b := by
  unfold g3
  rw [gcd_cast]
  congr 1
  rw [Nat.gcd_comm, <- Nat.gcd_assoc]
 have hp := plc_of (x := x) (y := y) hb
 have g0 := g3_pos (x := x) (y := y) hb
 have bg : Bt 9000 (g3 x y b) := Bt.le (bb.of_abs (by
  have := Int.natAbs_dvd_natAbs.mpr (g3_dvd_b x y b)
  exact Nat.le_of_dvd (by lia) this))
 walk_at "fn"
 walk_at "go"
 rw [abs_eq, abs_eq]
 refine s_lcommon ?_
 walk_at "go"
 rw [show b = (b.natAbs : Int) by lia]
 refine s_lcommon ?_
 rw [show (b.natAbs : Int) = b by lia, hg]
 generalize g3 x y b = g at *
 walk_at "go"
 exact q _ _ _ (Pl.of hp)
theorem s_lowest_place {x y b : Int} {Q : DK} {X : XP} (hb : 0 < b) (bb : Bt 8000 b) (q : ∀ u v t, Pl x y b u v t -> Q (.tup [.int u, .int v, .int t])) : f_lowest_place.run [.int x, .int y, .int b] Q X := by
 have hp := plc_of (x := x) (y := y) hb
 have g0 := g3_pos (x := x) (y := y) hb
 have bg : Bt 9000 (g3 x y b) := Bt.le (bb.of_abs (by
  have := Int.natAbs_dvd_natAbs.mpr (g3_dvd_b x y b)
  exact Nat.le_of_dvd (by lia) this))
 walk_at "fn"
 walk_at "go"
 refine s_common ?_
 walk_at "go"
 refine s_common ?_
 rw [show ((Int.gcd ((Int.gcd b x : Nat) : Int) y : Nat) : Int) = g3 x y b from rfl]
 generalize g3 x y b = g at *
 walk_at "go"
 exact q _ _ _ (Pl.of hp)
theorem s_place_added {x y z a b c : Int} {Q : DK} {X : XP} (hz : 0 < z) (hc : 0 < c) (h1 : Int.gcd ((Int.gcd x y : Nat) : Int) z = 1) (h2 : Int.gcd ((Int.gcd a b : Nat) : Int) c = 1) (bx : Bt 8000 x) (bY : Bt 8000 y) (bz : Bt 8000 z) (ba : Bt 8000 a) (bb : Bt 8000 b) (bc : Bt 8000 c)
  (q : ∀ u v t, Pl (x * c + a * z) (y * c + b * z) (z * c) u v t -> Q (.tup [.int u, .int v, .int t])) : f_place_added.run [.tup [.int x, .int y, .int z], .tup [.int a, .int b, .int c]] Q X := by
 obtain ⟨g, eg⟩ : ∃ g, g = ((Int.gcd z c : Nat) : Int) := ⟨_, rfl⟩
 obtain ⟨u, eu⟩ : ∃ u, u = x * (c / g) + a * (z / g) := ⟨_, rfl⟩
 obtain ⟨v, ev⟩ : ∃ v, v = y * (c / g) + b * (z / g) := ⟨_, rfl⟩
 obtain ⟨r, er⟩ : ∃ r, r = ((Int.gcd ((Int.gcd g u : Nat) : Int) v : Nat) : Int) := ⟨_, rfl⟩
 obtain ⟨g0, r0, gl, rl, pl⟩ := place_sum hz hc h1 h2 eg eu ev er
 have bg : Bt 9000 g := Bt.le (bz.of_abs gl)
 have br : Bt 9000 r := Bt.le (bz.of_abs rl)
 have b1 : Bt 8000 (c / g) := bc.of_abs (natAbs_ediv_le g0)
 have b2 : Bt 8000 (z / g) := bz.of_abs (natAbs_ediv_le g0)
 have b3 : Bt 8000 (c / r) := bc.of_abs (natAbs_ediv_le r0)
 walk_at "fn"
 walk_at "go"
 refine s_common ?_
 rw [<- eg]
 walk_at "go"
 rw [<- eu, <- ev]
 refine s_common ?_
 walk_at "go"
 refine s_common ?_
 rw [<- er]
 walk_at "go"
 exact q _ _ _ (Pl.of pl)
theorem gcd0 (u t : Int) : Int.gcd ((Int.gcd u 0 : Nat) : Int) t = Int.gcd u t := by rw [gcd_cast]; simp [Int.gcd]
theorem Pl.low {t b : Int} (hb : 0 < b) : Pl t 0 b (t / (Int.gcd t b : Int)) 0 (b / (Int.gcd t b : Int)) := by
 obtain ⟨g0, e1, e2, e3, e4⟩ := div_gcd (t := t) hb
 refine ⟨by lia, by rw [gcd0]; exact e4, ?_, by simp⟩
 generalize (Int.gcd t b : Int) = g at *
 generalize t / g = u at *
 generalize b / g = w at *
 rw [e2, e1]
 grind
theorem s_added {a b c d : Int} {Q : DK} {X : XP} (hb : 0 < b) (hd : 0 < d) (h1 : Int.gcd a b = 1) (h2 : Int.gcd c d = 1) (ba : Bt 8000 a) (bb : Bt 8000 b) (bc : Bt 8000 c) (bd : Bt 8000 d)
  (q : ∀ u t, Pl (a * d + c * b) 0 (b * d) u 0 t -> Q (.tup [.int u, .int t])) : f_added.run [.tup [.int a, .int b], .tup [.int c, .int d]] Q X := by
 obtain ⟨g, eg⟩ : ∃ g, g = ((Int.gcd b d : Nat) : Int) := ⟨_, rfl⟩
 obtain ⟨t, et⟩ : ∃ t, t = a * (d / g) + c * (b / g) := ⟨_, rfl⟩
 obtain ⟨r, er⟩ : ∃ r, r = ((Int.gcd g t : Nat) : Int) := ⟨_, rfl⟩
 obtain ⟨g0, r0, gl, rl, pl⟩ := place_sum (x := a) (y := 0) (z := b) (a := c) (b := 0) (c := d) (v := 0) (r := r) hb hd (by rw [gcd0]; exact h1) (by rw [gcd0]; exact h2) eg et (by simp) (by rw [er]; simp)
 have bg : Bt 9000 g := Bt.le (bb.of_abs gl)
 have br : Bt 9000 r := Bt.le (bb.of_abs rl)
 have b1 : Bt 8000 (d / g) := bd.of_abs (natAbs_ediv_le g0)
 have b2 : Bt 8000 (b / g) := bb.of_abs (natAbs_ediv_le g0)
 have b3 : Bt 8000 (d / r) := bd.of_abs (natAbs_ediv_le r0)
 walk_at "fn"
 walk_at "go"
 refine s_common ?_
 rw [<- eg]
 walk_at "go"
 rw [<- et]
 refine s_common ?_
 rw [<- er]
 walk_at "go"
 have := Pl.of pl
 simp only [Int.zero_ediv, Int.zero_mul, Int.add_zero] at this
 exact q _ _ this
abbrev Sh := Nat × Int × Int
abbrev shD (s : Sh) : D := .tup [.int (s.1 : Int), .tup [.int s.2.1, .int s.2.2]]
structure Sg (s : Sh) : Prop where
 top : 0 < s.2.1
 bot : 0 < s.2.2
 cop : Int.gcd s.2.1 s.2.2 = 1
 bt : Bt 67 s.2.1
 bb : Bt 67 s.2.2
structure Shs (n : Nat) (l : List Sh) : Prop where
 each : ∀ s ∈ l, Sg s /\ s.1 < n
 up : l.Pairwise (fun a b => a.1 < b.1)
theorem shs_len : ∀ {l : List Sh} {n : Nat}, l.Pairwise (fun a b => a.1 < b.1) -> (∀ s ∈ l, s.1 < n) -> l.length <= n := by
 intro l
 have main : ∀ (l : List Sh) (k n : Nat), l.Pairwise (fun a b => a.1 < b.1) -> (∀ s ∈ l, k <= s.1 /\ s.1 < n) -> k + l.length <= max k n := by
  intro l
  induction l with
  | nil => intro k n _ _; simp; lia
  | cons s l ih =>
   intro k n h h2
   rw [List.pairwise_cons] at h
   have := ih (s.1 + 1) n h.2 fun x hx => ⟨h.1 x hx, (h2 x (by simp [hx])).2⟩
   have := h2 s (by simp)
   simp
   lia
 intro n h h2
 have := main l 0 n h fun s hs => ⟨by lia, h2 s hs⟩
 lia
theorem s_is_share {s : Sh} {Q : DK} {X : XP} (h : Sg s) (q : Q (.bl true)) : f_is_share.run [.tup [.int s.2.1, .int s.2.2]] Q X := by
 walk_at "fn"
 walk_at "go"
 refine t_yes h.top ?_
 walk_at "go"
 refine t_yes h.bot ?_
 walk_at "go"
 refine s_common ?_
 rw [h.cop]
 walk_at "go"
 exact q
theorem s_are_shares {l : List P} {sh : List Sh} {Q : DK} {X : XP} (h : Shs l.length sh) (q : Q (.bl true)) : f_are_shares.run [vecs l, .tup (sh.map shD)] Q X := by
 walk_at "fn"
 walk_at "go"
 refine forL_inv (f := shD) (fun dn ρ => ∃ (a : Int) (x3 x4 : B), (∀ s ∈ sh, s ∉ dn -> True) /\ (dn = [] -> a = -1) /\ (∀ s, dn.getLast? = some s -> a = (s.1 : Int)) /\ ρ = [.s (vecs l), .s (.tup (sh.map shD)), .s (.int a), x3, x4]) ⟨-1, _, _, fun _ _ _ => trivial, fun _ => rfl, fun s z => by simp at z, rfl⟩ ?_ ?_
 ·rintro dn s r ρ e ⟨a, x3, x4, _, ha, hb, rfl⟩
  obtain ⟨hs, hn⟩ := h.each s (by rw [e]; simp)
  have hlt : a < (s.1 : Int) := by
   cases hd : dn.getLast? with
   | none => rw [ha (List.getLast?_eq_none_iff.mp hd)]; lia
   | some x =>
    rw [hb x hd]
    have hu := h.up
    rw [e, List.pairwise_append] at hu
    have := hu.2.2 x (List.mem_of_getLast? hd) s (by simp)
    lia
  refine ⟨rfl, ?_⟩
  show Sm.run _ _ _ _ _
  unfold setAll setAll setAll
  walk_at "en"
  walk_at "go"
  refine t_no (by lia) ?_
  walk_at "go"
  rw [List.length_map]
  refine t_no (by lia) ?_
  walk_at "go"
  refine s_is_share hs ?_
  walk_at "go"
  refine t_not (t_true ?_)
  walk_at "go"
  exact ⟨_, _, _, fun _ _ _ => trivial, fun z => by simp at z, fun x z => by simp at z; rw [z], rfl⟩
 rintro ρ ⟨a, x3, x4, _, ha, hb, rfl⟩
 walk_at "go"
 exact q
def Bq : List Sh -> Int
 | [] => 1
 | s :: l => Bq l * s.2.2
def Xq (w : Nat -> Int) : List Sh -> Int
 | [] => 0
 | s :: l => Xq w l * s.2.2 + w s.1 * s.2.1 * Bq l
theorem Bq.pos : ∀ {l : List Sh}, (∀ s ∈ l, Sg s) -> 0 < Bq l
 | [], _ => by decide
 | s :: l, h => Int.mul_pos (Bq.pos fun x hx => h x (by simp [hx])) (h s (by simp)).bot
theorem Bq.bt : ∀ {l : List Sh}, (∀ s ∈ l, Sg s) -> Bt (67 * l.length + 1) (Bq l)
 | [], _ => bt_abs (by decide)
 | s :: l, h => Bt.le (Bt.mul (Bq.bt fun x hx => h x (by simp [hx])) (h s (by simp)).bb) (by simp; lia)
theorem Xq.bt {w : Nat -> Int} (hw : ∀ k, Bt 600 (w k)) : ∀ {l : List Sh}, (∀ s ∈ l, Sg s) -> Bt (700 + 68 * l.length) (Xq w l)
 | [], _ => Bt.le (m := 1) (bt_abs (by show (0 : Int).natAbs < 2 ^ 1; decide))
 | s :: l, h => by
  have ih := Xq.bt hw (l := l) fun x hx => h x (by simp [hx])
  have hs := h s (by simp)
  have hB := Bq.bt (l := l) fun x hx => h x (by simp [hx])
  exact Bt.le (Bt.add (Bt.mul ih hs.bb) (Bt.mul (Bt.mul (hw s.1) hs.bt) hB)) (by simp; lia)
theorem xq_sum {w : Nat -> Int} : ∀ {l : List Sh} (M : Int), (∀ s ∈ l, Sg s) -> (l.map fun s => w s.1 * s.2.1 * (Bq l * M / s.2.2)).sum = Xq w l * M
 | [], M, _ => by simp [Xq]
 | s :: l, M, h => by
  have hs := h s (by simp)
  have ih := xq_sum (w := w) (l := l) (s.2.2 * M) fun x hx => h x (by simp [hx])
  have e1 : Bq (s :: l) * M = Bq l * (s.2.2 * M) := by simp only [Bq]; grind
  have e2 : Bq (s :: l) * M / s.2.2 = Bq l * M := by
   rw [show Bq (s :: l) * M = s.2.2 * (Bq l * M) by simp only [Bq]; grind]
   exact Int.mul_ediv_cancel_left _ (by have := hs.bot; lia)
  rw [List.map_cons, List.sum_cons, e2, e1, ih]
  simp only [Xq]
  grind
theorem sum_rev : ∀ l : List Int, l.reverse.sum = l.sum
 | [] => rfl
 | x :: l => by
  rw [List.reverse_cons, List.sum_append, sum_rev l]
  simp
  lia
theorem map_rev_sum (f : Sh -> Int) (l : List Sh) : (l.reverse.map f).sum = (l.map f).sum := by rw [List.map_reverse, sum_rev]
def wx (l : List P) (k : Nat) : Int := (Geo.cy l k).1
def wy (l : List P) (k : Nat) : Int := (Geo.cy l k).2
theorem s_place_times {a b p q : Int} {Q : DK} {X : XP} (hq : 0 < q) (bq : Bt 67 q) (ba : Bt 600 a) (bb : Bt 600 b) (bp : Bt 67 p) (h : ∀ u v t, Pl (a * p) (b * p) q u v t -> Q (.tup [.int u, .int v, .int t])) : f_place_times.run [.tup [.int a, .int b, .int 1], .tup [.int p, .int q]] Q X := by
 walk_at "fn"
 walk_at "go"
 rw [Int.one_mul]
 exact s_lowest_place hq bq.le h
theorem s_shares_end {l : List P} {sh : List Sh} {Q : DK} {X : XP} (hl : l ≠ []) (hz : l.length <= 62) (hb : Wb 600 l) (h : Shs l.length sh) (q : ∀ u v t, Pl (Xq (wx l) sh.reverse) (Xq (wy l) sh.reverse) (Bq sh.reverse) u v t -> Q (.tup [.int u, .int v, .int t])) : f_shares_end.run [vecs l, .tup (sh.map shD)] Q X := by
 have h0 := List.length_pos_iff.mpr hl
 have cb : ∀ k, Vb 600 (Geo.cy l k) := fun k => hb _ (List.mem_of_getElem? (Geo.cy_get h0))
 have sl := shs_len h.up fun s hs => (h.each s hs).2
 walk_at "fe"
 walk_at "go"
 refine s_are_shares h ?_
 walk_at "go"
 refine t_not (t_true ?_)
 walk_at "go"
 refine forL_inv (f := shD) (fun dn ρ => ∃ (u v t : Int) (x3 x4 x5 : B), Pl (Xq (wx l) dn.reverse) (Xq (wy l) dn.reverse) (Bq dn.reverse) u v t /\ ρ = [.s (vecs l), .s (.tup (sh.map shD)), .s (.tup [.int u, .int v, .int t]), x3, x4, x5]) ⟨0, 0, 1, _, _, _, ⟨by decide, by decide, by simp [Bq, Xq], by simp [Bq, Xq]⟩, rfl⟩ ?_ ?_
 ·rintro dn s r ρ e ⟨u, v, t, x3, x4, x5, hp, rfl⟩
  obtain ⟨hs, hn⟩ := h.each s (by rw [e]; simp)
  have hdn : ∀ x ∈ dn.reverse, Sg x := fun x hx => (h.each x (by rw [e]; simp at hx; simp [hx])).1
  have dl : dn.reverse.length <= 62 := by
   have := congrArg List.length e
   simp at this
   rw [List.length_reverse]
   lia
  have B0 := Bq.pos hdn
  obtain ⟨bt1, bu, bv⟩ := hp.bt B0 (Bt.le (Bq.bt hdn) (show _ <= 8000 by lia)) (Bt.le (Xq.bt (fun k => (cb k).1) hdn) (show _ <= 8000 by lia)) (Bt.le (Xq.bt (fun k => (cb k).2) hdn) (show _ <= 8000 by lia))
  refine ⟨rfl, ?_⟩
  show Sm.run _ _ _ _ _
  unfold setAll setAll setAll
  walk_at "en"
  walk_at "go"
  refine ix_ok (at_map (cy_at hn)) ?_
  refine sf_and (Safe.of_noL rfl rfl _) ?_
  walk_at "en"
  walk_at "go"
  refine s_place_times hs.bot hs.bb (cb s.1).1 (cb s.1).2 hs.bt fun a c w hk => ?_
  obtain ⟨bw, ba, bc⟩ := hk.bt hs.bot hs.bb (Bt.mul (cb s.1).1 hs.bt) (Bt.mul (cb s.1).2 hs.bt)
  refine s_place_added hp.pos hk.pos hp.cop hk.cop bu bv bt1 ba.le bc.le bw.le fun u' v' t' hs' => ?_
  refine sf_and (Safe.of_noL rfl rfl _) ?_
  walk_at "en"
  refine ⟨u', v', t', _, _, _, ?_, rfl⟩
  rw [List.reverse_append]
  exact hp.step B0 hs.bot hk hs'
 rintro ρ ⟨u, v, t, x3, x4, x5, hp, rfl⟩
 walk_at "go"
 exact q u v t hp
theorem s_shares_sum {n : Nat} {sh : List Sh} {Q : DK} {X : XP} (hn : n <= 62) (h : Shs n sh) (q : ∀ u t, Pl (Xq (fun _ => 1) sh.reverse) 0 (Bq sh.reverse) u 0 t -> Q (.tup [.int u, .int t])) : f_shares_sum.run [.tup (sh.map shD)] Q X := by
 have sl := shs_len h.up fun s hs => (h.each s hs).2
 have w1 : ∀ k : Nat, Bt 600 ((fun _ => (1 : Int)) k) := fun _ => Bt.le (m := 1) (bt_abs (by show (1 : Int).natAbs < 2 ^ 1; decide))
 walk_at "fn"
 walk_at "go"
 refine forL_inv (f := shD) (fun dn ρ => ∃ (u t : Int) (x3 x4 : B), Pl (Xq (fun _ => 1) dn.reverse) 0 (Bq dn.reverse) u 0 t /\ ρ = [.s (.tup (sh.map shD)), .s (.tup [.int u, .int t]), x3, x4]) ⟨0, 1, _, _, ⟨by decide, by decide, by simp [Bq, Xq], by simp⟩, rfl⟩ ?_ ?_
 ·rintro dn s r ρ e ⟨u, t, x3, x4, hp, rfl⟩
  obtain ⟨hs, hn⟩ := h.each s (by rw [e]; simp)
  have hdn : ∀ x ∈ dn.reverse, Sg x := fun x hx => (h.each x (by rw [e]; simp at hx; simp [hx])).1
  have dl : dn.reverse.length <= 62 := by
   have := congrArg List.length e
   simp at this
   rw [List.length_reverse]
   lia
  have B0 := Bq.pos hdn
  obtain ⟨bt1, bu, _⟩ := hp.bt B0 (Bt.le (Bq.bt hdn) (show _ <= 8000 by lia)) (Bt.le (Xq.bt w1 hdn) (show _ <= 8000 by lia)) (Bt.le (m := 0) (bt_abs (by decide)) (show _ <= 8000 by lia))
  have hc := hp.cop
  rw [gcd0] at hc
  refine ⟨rfl, ?_⟩
  show Sm.run _ _ _ _ _
  unfold setAll setAll setAll
  walk_at "en"
  walk_at "go"
  refine s_added hp.pos hs.bot hc hs.cop bu bt1 hs.bt.le hs.bb.le fun u' t' hs' => ?_
  refine sf_and (Safe.of_noL rfl rfl _) ?_
  walk_at "en"
  refine ⟨u', t', _, _, ?_, rfl⟩
  rw [List.reverse_append]
  have hk : Pl (1 * s.2.1) (0 * s.2.1) s.2.2 s.2.1 0 s.2.2 := ⟨hs.bot, by rw [gcd0]; exact hs.cop, by rw [Int.one_mul], by simp⟩
  have st := hp.step (vx := 1) (vy := 0) (u' := u') (v' := 0) (t' := t') B0 hs.bot hk (by simpa using hs')
  simpa [Xq, Bq] using st
 rintro ρ ⟨u, t, x3, x4, hp, rfl⟩
 walk_at "go"
 exact q u t hp
theorem s_law_end {l : List P} {sh : List Sh} {Q : DK} {X : XP} (hl : l ≠ []) (hz : l.length <= 62) (hb : Wb 600 l) (h : Shs l.length sh) (q : ∀ u v t, Pl (Xq (wx l) sh.reverse) (Xq (wy l) sh.reverse) (Bq sh.reverse) u v t -> Q (.tup [.int u, .int v, .int t])) : f_law_end_c275c.run [vecs l, .tup (sh.map shD)] Q X := by
 have h0 := List.length_pos_iff.mpr hl
 have cb : ∀ k, Vb 600 (Geo.cy l k) := fun k => hb _ (List.mem_of_getElem? (Geo.cy_get h0))
 have sl := shs_len h.up fun s hs => (h.each s hs).2
 have hsh : ∀ x ∈ sh.reverse, Sg x := fun x hx => (h.each x (by simpa using hx)).1
 have bB : Bt 8000 (Bq sh.reverse) := Bt.le (Bq.bt hsh) (by rw [List.length_reverse]; lia)
 have B0 := Bq.pos hsh
 have bdv : ∀ s ∈ sh, Bt 8000 (Bq sh.reverse / s.2.2) := fun s hs => bB.of_abs (natAbs_ediv_le (h.each s hs).1.bot)
 walk_at "fn"
 walk_at "go"
 refine forL_inv (f := shD) (fun dn ρ => ∃ x3 x4 : B, ρ = [.s (vecs l), .s (.tup (sh.map shD)), .s (.int (Bq dn.reverse)), x3, x4, .n, .n]) ⟨_, _, rfl⟩ ?_ ?_
 ·rintro dn s r ρ e ⟨x3, x4, rfl⟩
  have hs := (h.each s (by rw [e]; simp)).1
  have hdn : ∀ x ∈ dn.reverse, Sg x := fun x hx => (h.each x (by rw [e]; simp at hx; simp [hx])).1
  have dl : dn.reverse.length <= 62 := by
   have := congrArg List.length e
   simp at this
   rw [List.length_reverse]
   lia
  have bd : Bt 8000 (Bq dn.reverse) := Bt.le (Bq.bt hdn) (by lia)
  have bs := hs.bb
  refine ⟨rfl, ?_⟩
  show Sm.run _ _ _ _ _
  unfold setAll setAll setAll
  walk_at "en"
  walk_at "go"
  rw [List.reverse_append]
  exact ⟨_, _, rfl⟩
 rintro ρ ⟨x3, x4, rfl⟩
 walk_at "go"
 refine ⟨by rw [List.length_map]; exact szl' (by lia), ?_⟩
 refine compL_map (g := fun s => .int (wx l s.1 * s.2.1 * (Bq sh.reverse / s.2.2))) (fun s hs K hK => ?_) ?_
 ·have hg := (h.each s hs).1
  have b1 := (cb s.1).1
  have b2 := hg.bt
  have b3 := bdv s hs
  have b4 := hg.bb
  have p4 := hg.bot
  have b12 : Bt 700 ((Geo.cy l s.1).1 * s.2.1) := (Bt.mul b1 b2).le
  refine ⟨rfl, ?_⟩
  show Ex.run _ _ _ _
  unfold setAll setAll setAll
  walk_at "en"
  walk_at "go"
  refine ix_ok (at_map (cy_at (h.each s hs).2)) ?_
  walk_at "go"
  exact hK
 rw [show (sh.map fun s => D.int (wx l s.1 * s.2.1 * (Bq sh.reverse / s.2.2))) = (sh.map fun s => wx l s.1 * s.2.1 * (Bq sh.reverse / s.2.2)).map .int by rw [List.map_map]; rfl]
 refine o_sum ?_
 walk_at "go"
 refine ⟨by rw [List.length_map]; exact szl' (by lia), ?_⟩
 refine compL_map (g := fun s => .int (wy l s.1 * s.2.1 * (Bq sh.reverse / s.2.2))) (fun s hs K hK => ?_) ?_
 ·have hg := (h.each s hs).1
  have b1 := (cb s.1).2
  have b2 := hg.bt
  have b3 := bdv s hs
  have b4 := hg.bb
  have p4 := hg.bot
  have b12 : Bt 700 ((Geo.cy l s.1).2 * s.2.1) := (Bt.mul b1 b2).le
  refine ⟨rfl, ?_⟩
  show Ex.run _ _ _ _
  unfold setAll setAll setAll
  walk_at "en"
  walk_at "go"
  refine ix_ok (at_map (cy_at (h.each s hs).2)) ?_
  walk_at "go"
  exact hK
 rw [show (sh.map fun s => D.int (wy l s.1 * s.2.1 * (Bq sh.reverse / s.2.2))) = (sh.map fun s => wy l s.1 * s.2.1 * (Bq sh.reverse / s.2.2)).map .int by rw [List.map_map]; rfl]
 refine o_sum ?_
 have sm : ∀ w : Nat -> Int, (sh.map fun s => w s.1 * s.2.1 * (Bq sh.reverse / s.2.2)).sum = Xq w sh.reverse := fun w => by
  rw [<- map_rev_sum]
  have := xq_sum (w := w) 1 hsh
  simpa using this
 rw [sm, sm]
 walk_at "go"
 exact s_lred B0 bB q
theorem s_law_together {n : Nat} {sh : List Sh} {Q : DK} {X : XP} (hn : n <= 62) (h : Shs n sh) (q : ∀ u t, Pl (Xq (fun _ => 1) sh.reverse) 0 (Bq sh.reverse) u 0 t -> Q (.tup [.int u, .int t])) : f_law_together_9214a.run [.tup (sh.map shD)] Q X := by
 have sl := shs_len h.up fun s hs => (h.each s hs).2
 have hsh : ∀ x ∈ sh.reverse, Sg x := fun x hx => (h.each x (by simpa using hx)).1
 have bB : Bt 8000 (Bq sh.reverse) := Bt.le (Bq.bt hsh) (by rw [List.length_reverse]; lia)
 have B0 := Bq.pos hsh
 have bdv : ∀ s ∈ sh, Bt 8000 (Bq sh.reverse / s.2.2) := fun s hs => bB.of_abs (natAbs_ediv_le (h.each s hs).1.bot)
 walk_at "fn"
 walk_at "go"
 refine forL_inv (f := shD) (fun dn ρ => ∃ x3 x4 : B, ρ = [.s (.tup (sh.map shD)), .s (.int (Bq dn.reverse)), x3, x4]) ⟨_, _, rfl⟩ ?_ ?_
 ·rintro dn s r ρ e ⟨x3, x4, rfl⟩
  have hs := (h.each s (by rw [e]; simp)).1
  have hdn : ∀ x ∈ dn.reverse, Sg x := fun x hx => (h.each x (by rw [e]; simp at hx; simp [hx])).1
  have dl : dn.reverse.length <= 62 := by
   have := congrArg List.length e
   simp at this
   rw [List.length_reverse]
   lia
  have bd : Bt 8000 (Bq dn.reverse) := Bt.le (Bq.bt hdn) (by lia)
  have bs := hs.bb
  refine ⟨rfl, ?_⟩
  show Sm.run _ _ _ _ _
  unfold setAll setAll setAll
  walk_at "en"
  walk_at "go"
  rw [List.reverse_append]
  exact ⟨_, _, rfl⟩
 rintro ρ ⟨x3, x4, rfl⟩
 walk_at "go"
 refine ⟨by rw [List.length_map]; exact szl' (by lia), ?_⟩
 refine compL_map (g := fun s => .int (s.2.1 * (Bq sh.reverse / s.2.2))) (fun s hs K hK => ?_) ?_
 ·have hg := (h.each s hs).1
  have b2 := hg.bt
  have b3 := bdv s hs
  have b4 := hg.bb
  have p4 := hg.bot
  refine ⟨rfl, ?_⟩
  show Ex.run _ _ _ _
  unfold setAll setAll setAll
  walk_at "en"
  walk_at "go"
  exact hK
 rw [show (sh.map fun s => D.int (s.2.1 * (Bq sh.reverse / s.2.2))) = (sh.map fun s => s.2.1 * (Bq sh.reverse / s.2.2)).map .int by rw [List.map_map]; rfl]
 refine o_sum ?_
 have sm : (sh.map fun s => s.2.1 * (Bq sh.reverse / s.2.2)).sum = Xq (fun _ => 1) sh.reverse := by
  rw [<- map_rev_sum]
  have := xq_sum (w := fun _ => 1) 1 hsh
  simpa using this
 rw [sm]
 walk_at "go"
 exact s_llow B0 bB (q _ _ (Pl.low B0))
end Pu
set_option Elab.async false
set_option linter.all false
set_option maxRecDepth 100000
set_option maxHeartbeats 4000000
namespace Pu
open PySem L2 Mth
theorem o_neB {x y : Bool} {Q : DK} {X : XP} (q : Q (.bl (!decide (x = y)))) : pNe.run [.bl x, .bl y] Q X := q
theorem s_same_int {n : Nat} {a : Int} {Q : DK} {X : XP} (q : Q (.bl true)) : (f_law_same_a1d8f_r (n + 1)).run [.int a, .int a] Q X := by
 walk_at "fn"
 walk_at "go"
 refine t_eqF rfl ?_
 walk_at "go"
 refine t_eqF rfl ?_
 walk_at "go"
 refine t_eqF rfl ?_
 walk_at "go"
 refine t_not (t_eqT rfl ?_)
 walk_at "go"
 refine o_neB ?_
 refine t_not (t_yes rfl ?_)
 walk_at "go"
 rw [decide_eq_true (show a = a from rfl)]
 exact q
theorem s_same_tup {n : Nat} {l : List D} {Q : DK} {X : XP} (hz : l.length <= 1000) (hi : ∀ d ∈ l, ∀ (Q : DK) (X : XP), Q (.bl true) -> (f_law_same_a1d8f_r n).run [d, d] Q X) (q : Q (.bl true)) : (f_law_same_a1d8f_r (n + 1)).run [.tup l, .tup l] Q X := by
 walk_at "fn"
 walk_at "go"
 refine t_eqT rfl ?_
 walk_at "go"
 refine t_not (t_eqT rfl ?_)
 walk_at "go"
 refine t_not (t_yes rfl ?_)
 walk_at "go"
 refine r_rng1 (by omega) (by omega) ?_
 rw [show ((l.length : Nat) : Int).toNat = l.length by simp]
 refine forL_inv (f := fun (j : Nat) => D.int (j : Int)) (fun dn ρ => ∃ x : B, ρ = [.s (.tup l), .s (.tup l), x]) ⟨_, rfl⟩ ?_ ?_
 ·rintro dn k r ρ e ⟨x, rfl⟩
  have hk : k < l.length := by
   have : k ∈ List.range l.length := by rw [e]; simp
   simpa using this
  obtain ⟨d, hd, ed⟩ := at_any (xs := l) (i := (k : Int)) (by omega) (by omega)
  show Sm.run _ _ _ _ _
  walk_at "en"
  walk_at "go"
  refine ix_ok ed ?_
  walk_at "go"
  refine ix_ok ed ?_
  walk_at "go"
  refine hi d hd _ _ ?_
  walk_at "go"
  refine t_not (t_true ?_)
  walk_at "go"
  exact ⟨_, rfl⟩
 rintro ρ ⟨x, rfl⟩
 walk_at "go"
 exact q
theorem s_same_ints {l : List Int} {Q : DK} {X : XP} (hz : l.length <= 1000) (q : Q (.bl true)) : f_law_same_a1d8f.run [.tup (l.map .int), .tup (l.map .int)] Q X := by
 refine s_same_tup (n := 3) (by rw [List.length_map]; exact hz) (fun d hd Q X q => ?_) q
 obtain ⟨p, _, rfl⟩ := List.mem_map.mp hd
 exact s_same_int (n := 2) q
theorem s_lowsh {t b : Int} {Q : DK} {X : XP} (ht : 0 < t) (hb : 0 < b) (bt' : Bt 67 t) (bb : Bt 67 b) (q : ∀ u w, (∀ k, Sg (k, u, w)) -> Q (.tup [.int u, .int w])) : f_law_lowest_7d340.run [.int t, .int b] Q X := by
 obtain ⟨g0, e1, e2, e3, e4⟩ := div_gcd (t := t) hb
 refine s_llow hb bb.le (q _ _ fun k => ⟨?_, by show 0 < b / _; lia, e4, bt'.of_abs (natAbs_ediv_le g0), bb.of_abs (natAbs_ediv_le g0)⟩)
 show 0 < t / (Int.gcd t b : Int)
 rcases Int.lt_or_le 0 (t / (Int.gcd t b : Int)) with z | z
 ·exact z
 ·have := Int.mul_nonpos_of_nonneg_of_nonpos (Int.le_of_lt g0) z
  lia
theorem s_any_shares {l : List P} {c : Int} {Q : DK} {X : XP} (hz : l.length <= 62) (q : ∀ sh, Shs l.length sh -> Q (.tup (sh.map shD))) : f_law_any_shares_ef24c.run [vecs l, .int c] Q X := by
 walk_at "fn"
 walk_at "go"
 refine sfi_and (fun x hx => by cases hx) ?_
 walk_at "en"
 walk_at "go"
 rw [List.length_map]
 refine r_rng1 (by lia) (by lia) ?_
 have er : ((l.length : Nat) : Int).toNat = l.length := by simp
 rw [er]
 refine forL_inv (f := fun (j : Nat) => D.int (j : Int)) (fun dn ρ => ∃ (sh : List Sh) (rest : Int) (x4 x5 x6 : B), (∀ s ∈ sh, Sg s /\ s.1 < l.length) /\ sh.Pairwise (fun a b => a.1 < b.1) /\ (∀ s ∈ sh, s.1 < dn.length) /\ ρ = [.s (vecs l), .s (.int c), .o (.lst (sh.map shD)), .s (.int rest), x4, x5, x6]) ⟨[], _, _, _, _, fun _ z => by (cases z), .nil, fun _ z => by (cases z), rfl⟩ ?_ ?_
 ·rintro dn k r ρ e ⟨sh, rest, x4, x5, x6, h1, h2, h3, rfl⟩
  have hk : k = dn.length /\ k < l.length := by
   have h4 := congrArg List.length e
   have h5 : (List.range l.length)[dn.length]? = some k := by rw [e]; simp
   rw [List.getElem?_range (by simp at h4; lia)] at h5
   simp at h4 h5
   lia
  have sl : sh.length <= 62 := Nat.le_trans (shs_len h2 fun s hs => (h1 s hs).2) hz
  show Sm.run _ _ _ _ _
  walk_at "en"
  walk_at "go"
  refine s_mix (bt_abs (by decide)) fun u u0 u1 => ?_
  walk_at "go"
  refine menu (ns := [3, 60, 10 ^ 20]) (by lia) (by show u % 3 < 3; lia) fun m hm => ?_
  have hm' : 0 < m /\ m <= 100000000000000000000 := by
   simp only [List.mem_cons, List.not_mem_nil, or_false] at hm
   omega
  clear hm
  walk_at "go"
  refine s_mix (bt_abs (by omega)) fun v v0 v1 => ?_
  walk_at "go"
  refine t_dec (fun _ => ?_) (fun _ => ?_)
  ·walk_at "go"
   refine s_mix (bt_abs (by omega)) fun a a0 a1 => ?_
   walk_at "go"
   refine s_mix (bt_abs (by omega)) fun b b0 b1 => ?_
   walk_at "go"
   have ha1 := Int.emod_nonneg a (show m ≠ 0 by omega)
   have ha2 := Int.emod_lt_of_pos a hm'.1
   have hb1 := Int.emod_nonneg b (show m ≠ 0 by omega)
   have hb2 := Int.emod_lt_of_pos b hm'.1
   generalize a % m = a' at *
   generalize b % m = b' at *
   refine s_lowsh (by omega) (by omega) (bt_abs (by omega)) (bt_abs (by omega)) fun p w hs => ?_
   refine sf_and (Safe.of_noL rfl rfl _) ?_
   walk_at "en"
   refine s_cut (fun ρ' => ∃ (p w rest : Int), (∀ k, Sg (k, p, w)) /\ ρ' = [.s (vecs l), .s (.int c), .o (.lst (sh.map shD)), .s (.int rest), .s (.int (k : Int)), .s (.int m), .s (.tup [.int p, .int w])]) ?_ ?_
   ·walk_at "go"
    refine t_dec (fun _ => ?_) (fun _ => ?_)
    ·have tw : (10 : Int) ^ (20 : Int).toNat = 100000000000000000000 := by decide
     have tf : (10 : Int) ^ (40 : Int).toNat = 10000000000000000000000000000000000000000 := by decide
     walk_at "go"
     rw [tw]
     walk_at "go"
     refine s_lowsh (by omega) (by omega) (bt_abs (by omega)) (bt_abs (by omega)) fun p' w' hs' => ?_
     refine sf_and (Safe.of_noL rfl rfl _) ?_
     walk_at "en"
     walk_at "go"
     exact ⟨p', w', _, hs', rfl⟩
    ·walk_at "go"
     exact ⟨p, w, rest, hs, rfl⟩
   rintro ρ' ⟨p, w, rest, hs, rfl⟩
   refine s_app (l := []) (own_some rfl ?_)
   walk_at "go"
   refine ⟨by rw [List.length_map]; exact szl' (by omega), Safe.of_noL rfl rfl _, ?_⟩
   walk_at "en"
   refine ⟨sh ++ [(k, p, w)], rest, _, _, _, fun s hs' => ?_, ?_, fun s hs' => ?_, by rw [List.map_append]; rfl⟩
   ·rcases List.mem_append.mp hs' with hs' | hs'
    ·exact h1 s hs'
    ·rw [List.mem_singleton.mp hs']
     exact ⟨hs k, hk.2⟩
   ·rw [List.pairwise_append]
    refine ⟨h2, List.pairwise_singleton _ _, fun x hx y hy => ?_⟩
    rw [List.mem_singleton.mp hy]
    have := h3 x hx
    show x.1 < k
    omega
   ·rcases List.mem_append.mp hs' with hs' | hs'
    ·have := h3 s hs'
     simp
     omega
    ·rw [List.mem_singleton.mp hs']
     show k < _
     simp
     omega
  ·walk_at "go"
   exact ⟨sh, rest, _, _, _, h1, h2, fun s hs => by have := h3 s hs; simp; lia, rfl⟩
 rintro ρ ⟨sh, rest, x4, x5, x6, h1, h2, h3, rfl⟩
 walk_at "go"
 exact q sh ⟨h1, h2⟩
theorem noL_shs (l : List Sh) : noL (.tup (l.map shD)) = true := by
 show noLs (l.map shD) = true
 refine noLs_all fun d hd => ?_
 obtain ⟨x, _, rfl⟩ := List.mem_map.mp hd
 rfl
theorem noD_shs (l : List Sh) : noD (.tup (l.map shD)) = true := by
 show noDs (l.map shD) = true
 refine noDs_all fun d hd => ?_
 obtain ⟨x, _, rfl⟩ := List.mem_map.mp hd
 rfl
theorem law_k17 (ns : List Int) (h : ns.length <= 63) : f_law_592f6.run [.lst (ns.map .int)] (fun d => d = .bl true) (fun _ => False) := by
 have nil0 : ∀ n, Shs n [] := fun n => ⟨fun _ z => by (cases z), .nil⟩
 walk_at "fe"
 walk_at "go"
 refine s_pairs h fun ps hps => ?_
 walk_at "go"
 refine forL_inv (f := prD) (fun dn ρ => ∃ x1 x2 x3 : B, ρ = [.s (.lst (ns.map .int)), x1, x2, x3]) ⟨_, _, _, rfl⟩ ?_ ?_
 ·rintro dn x r ρ e ⟨x1, x2, x3, rfl⟩
  obtain ⟨hb, hn, hz⟩ := hps x (by rw [e]; simp)
  obtain ⟨l, c⟩ := x
  dsimp only at hb hn hz
  refine ⟨rfl, ?_⟩
  show Sm.run _ _ _ _ _
  unfold setAll setAll setAll
  walk_at "en"
  walk_at "go"
  refine s_any_shares hz fun sh hsh => ?_
  refine sf_and (Safe.of_noL (noL_shs _) (noD_shs _) _) ?_
  walk_at "en"
  walk_at "go"
  have B0 : ∀ {sh : List Sh}, Shs l.length sh -> 0 < Bq sh.reverse := fun {sh} hs => Bq.pos fun x hx => (hs.each x (by simpa using hx)).1
  refine s_shares_end hn hz hb hsh fun u v t hp => ?_
  walk_at "go"
  refine s_law_end hn hz hb hsh fun u' v' t' hp' => ?_
  obtain ⟨rfl, rfl, rfl⟩ := hp.eq (B0 hsh) hp'
  refine s_same_ints (l := [u, v, t]) (by simp) ?_
  walk_at "go"
  refine t_not (t_true ?_)
  walk_at "go"
  refine s_shares_sum hz hsh fun a b ha => ?_
  walk_at "go"
  refine s_law_together hz hsh fun a' b' ha' => ?_
  obtain ⟨rfl, _, rfl⟩ := ha.eq (B0 hsh) ha'
  refine s_same_ints (l := [a, b]) (by simp) ?_
  walk_at "go"
  refine t_not (t_true ?_)
  walk_at "go"
  refine s_shares_end (sh := []) hn hz hb (nil0 _) fun u2 v2 t2 hp2 => ?_
  have h0 : Pl (Xq (wx l) ([] : List Sh).reverse) (Xq (wy l) ([] : List Sh).reverse) (Bq ([] : List Sh).reverse) 0 0 1 := ⟨by decide, by decide, by simp [Bq, Xq], by simp [Bq, Xq]⟩
  obtain ⟨rfl, rfl, rfl⟩ := hp2.eq (B0 (nil0 _)) h0
  walk_at "go"
  refine s_same_ints (l := [0, 0, 1]) (by simp) ?_
  walk_at "go"
  refine t_not (t_true ?_)
  walk_at "go"
  exact ⟨_, _, _, rfl⟩
 rintro ρ ⟨x1, x2, x3, rfl⟩
 walk_at "go"
 refine s_shares_sum (n := 0) (sh := []) (by decide) (nil0 _) fun a b ha => ?_
 have h0 : Pl (Xq (fun _ => 1) ([] : List Sh).reverse) 0 (Bq ([] : List Sh).reverse) 0 0 1 := ⟨by decide, by decide, by simp [Bq, Xq], by simp⟩
 obtain ⟨rfl, _, rfl⟩ := ha.eq (by decide) h0
 walk_at "go"
 refine s_same_ints (l := [0, 1]) (by simp) rfl
end Pu
set_option Elab.async false
set_option linter.all false
set_option maxRecDepth 100000
set_option maxHeartbeats 4000000
namespace My
open PySem L2 Pu
def top (i : Nat) : Stmt := PySem.Challenge.pw_closehaul_k17_where_shares_lead.main.body.getD i (.Pass ⟨0, 0, 0, 0⟩)
theorem d_NoShares : (("NoShares" : Str) == ("__debug__" : Str)) = false := by decide
theorem d__law_any_shares : (("_law_any_shares" : Str) == ("__debug__" : Str)) = false := by decide
theorem d__law_cell_at : (("_law_cell_at" : Str) == ("__debug__" : Str)) = false := by decide
theorem d__law_common : (("_law_common" : Str) == ("__debug__" : Str)) = false := by decide
theorem d__law_digits : (("_law_digits" : Str) == ("__debug__" : Str)) = false := by decide
theorem d__law_end : (("_law_end" : Str) == ("__debug__" : Str)) = false := by decide
theorem d__law_far_off : (("_law_far_off" : Str) == ("__debug__" : Str)) = false := by decide
theorem d__law_free_pairs : (("_law_free_pairs" : Str) == ("__debug__" : Str)) = false := by decide
theorem d__law_lowest : (("_law_lowest" : Str) == ("__debug__" : Str)) = false := by decide
theorem d__law_mix : (("_law_mix" : Str) == ("__debug__" : Str)) = false := by decide
theorem d__law_pairs : (("_law_pairs" : Str) == ("__debug__" : Str)) = false := by decide
theorem d__law_reduced : (("_law_reduced" : Str) == ("__debug__" : Str)) = false := by decide
theorem d__law_same : (("_law_same" : Str) == ("__debug__" : Str)) = false := by decide
theorem d__law_together : (("_law_together" : Str) == ("__debug__" : Str)) = false := by decide
theorem d__law_vector : (("_law_vector" : Str) == ("__debug__" : Str)) = false := by decide
theorem d__law_wind : (("_law_wind" : Str) == ("__debug__" : Str)) = false := by decide
theorem d__law_within : (("_law_within" : Str) == ("__debug__" : Str)) = false := by decide
theorem d_abs : (("abs" : Str) == ("__debug__" : Str)) = false := by decide
theorem d_added : (("added" : Str) == ("__debug__" : Str)) = false := by decide
theorem d_are_shares : (("are_shares" : Str) == ("__debug__" : Str)) = false := by decide
theorem d_bool : (("bool" : Str) == ("__debug__" : Str)) = false := by decide
theorem d_common_divisor : (("common_divisor" : Str) == ("__debug__" : Str)) = false := by decide
theorem d_int : (("int" : Str) == ("__debug__" : Str)) = false := by decide
theorem d_is_share : (("is_share" : Str) == ("__debug__" : Str)) = false := by decide
theorem d_len : (("len" : Str) == ("__debug__" : Str)) = false := by decide
theorem d_lowest_place : (("lowest_place" : Str) == ("__debug__" : Str)) = false := by decide
theorem d_max : (("max" : Str) == ("__debug__" : Str)) = false := by decide
theorem d_min : (("min" : Str) == ("__debug__" : Str)) = false := by decide
theorem d_place_added : (("place_added" : Str) == ("__debug__" : Str)) = false := by decide
theorem d_place_times : (("place_times" : Str) == ("__debug__" : Str)) = false := by decide
theorem d_shares_end : (("shares_end" : Str) == ("__debug__" : Str)) = false := by decide
theorem d_shares_sum : (("shares_sum" : Str) == ("__debug__" : Str)) = false := by decide
theorem d_str : (("str" : Str) == ("__debug__" : Str)) = false := by decide
theorem d_sum : (("sum" : Str) == ("__debug__" : Str)) = false := by decide
theorem d_tuple : (("tuple" : Str) == ("__debug__" : Str)) = false := by decide
theorem b_abs : bootBuiltins "abs" = some (.builtin "abs") := by rfl
theorem m_abs : ("abs" : Str) ≠ "__name__" := by decide
theorem b_bool : bootBuiltins "bool" = some (.type "bool") := by rfl
theorem m_bool : ("bool" : Str) ≠ "__name__" := by decide
theorem b_int : bootBuiltins "int" = some (.type "int") := by rfl
theorem m_int : ("int" : Str) ≠ "__name__" := by decide
theorem b_len : bootBuiltins "len" = some (.builtin "len") := by rfl
theorem m_len : ("len" : Str) ≠ "__name__" := by decide
theorem b_max : bootBuiltins "max" = some (.builtin "max") := by rfl
theorem m_max : ("max" : Str) ≠ "__name__" := by decide
theorem b_min : bootBuiltins "min" = some (.builtin "min") := by rfl
theorem m_min : ("min" : Str) ≠ "__name__" := by decide
theorem b_str : bootBuiltins "str" = some (.type "str") := by rfl
theorem m_str : ("str" : Str) ≠ "__name__" := by decide
theorem b_sum : bootBuiltins "sum" = some (.builtin "sum") := by rfl
theorem m_sum : ("sum" : Str) ≠ "__name__" := by decide
theorem b_tuple : bootBuiltins "tuple" = some (.type "tuple") := by rfl
theorem m_tuple : ("tuple" : Str) ≠ "__name__" := by decide
structure Txt (K : PySem.W.Frag) (mg : Str -> Option Value) (cNoShares : Addr) : Prop where
 triv : True
 n_abs : mg "abs" = none
 n_bool : mg "bool" = none
 n_int : mg "int" = none
 n_isinstance : mg "isinstance" = none
 n_len : mg "len" = none
 n_max : mg "max" = none
 n_min : mg "min" = none
 n_range : mg "range" = none
 n_str : mg "str" = none
 n_sum : mg "sum" = none
 n_tuple : mg "tuple" = none
 x_NoShares : Exc K mg "NoShares" cNoShares
abbrev s_common_divisor : Stmt := top 4
theorem sc_common_divisor : FnScope ["one", "other", "great", "small", "rest"] ["one", "other"] (defScope s_common_divisor) := ⟨rfl, rfl, rfl, by decide +kernel, rfl, by decide +kernel, by decide +kernel⟩
theorem h_common_divisor_0 : Nm (defScope s_common_divisor) "one" := ⟨.inl rfl, by decide, by decide⟩
theorem h_common_divisor_1 : Nm (defScope s_common_divisor) "other" := ⟨.inl rfl, by decide, by decide⟩
theorem h_common_divisor_2 : Nm (defScope s_common_divisor) "great" := ⟨.inl rfl, by decide, by decide⟩
theorem h_common_divisor_3 : Nm (defScope s_common_divisor) "small" := ⟨.inl rfl, by decide, by decide⟩
theorem h_common_divisor_4 : Nm (defScope s_common_divisor) "rest" := ⟨.inl rfl, by decide, by decide⟩
theorem g_common_divisor_abs : GlS (defScope s_common_divisor) "abs" := rfl
theorem ok_common_divisor {P : Program} {w : World} {K : PySem.W.Frag} {mg : Str -> Option Value} {base : Heap} {f : Addr} {fd : FuncData} {cNoShares : Addr} (T : Txt K mg cNoShares) (F : Fun K "common_divisor" "common_divisor" s_common_divisor f fd) : FnOk P w K mg base (CXe P w) 1 f fd ["one", "other"] (spP K mg f_common_divisor) := by
 refine fnN F sc_common_divisor rfl rfl (fun cdv A outer s H E hr => ?_)
 have hu := hr.units
 exact (qz_cons (qz_asg (ag 2 sc_common_divisor.nd h_common_divisor_2 (qx_cb cb_abs lkN (glg g_common_divisor_abs) T.n_abs b_abs (qxa_cons (qx_v (vg 0 h_common_divisor_0)) qxa_nil) m_abs d_abs)))
   (qz_cons (qz_asg (ag 3 sc_common_divisor.nd h_common_divisor_3 (qx_cb cb_abs lkN (glg g_common_divisor_abs) T.n_abs b_abs (qxa_cons (qx_v (vg 1 h_common_divisor_1)) qxa_nil) m_abs d_abs)))
   (qz_cons (qz_while PassesOwn.never (qt_cmp (oc_ne hu) lk2 (qx_v (vg 3 h_common_divisor_3)) qx_int (nomark _)) (qz_cons (qz_asg (ag 4 sc_common_divisor.nd h_common_divisor_4 (qx_bin oa_mod lk2 (qx_v (vg 2 h_common_divisor_2)) (qx_v (vg 3 h_common_divisor_3)))))
   (qz_cons (qz_asg (ag 2 sc_common_divisor.nd h_common_divisor_2 (qx_v (vg 3 h_common_divisor_3))))
   (qz_one (qz_asg (ag 3 sc_common_divisor.nd h_common_divisor_3 (qx_v (vg 4 h_common_divisor_4))))))))
   (qz_one (qz_ret (qx_v (vg 2 h_common_divisor_2)))))))
abbrev s_added : Stmt := top 5
theorem sc_added : FnScope ["one", "other", "shared", "one_times", "other_times", "top", "rest"] ["one", "other"] (defScope s_added) := ⟨rfl, rfl, rfl, by decide +kernel, rfl, by decide +kernel, by decide +kernel⟩
theorem h_added_0 : Nm (defScope s_added) "one" := ⟨.inl rfl, by decide, by decide⟩
theorem h_added_1 : Nm (defScope s_added) "other" := ⟨.inl rfl, by decide, by decide⟩
theorem h_added_2 : Nm (defScope s_added) "shared" := ⟨.inl rfl, by decide, by decide⟩
theorem h_added_3 : Nm (defScope s_added) "one_times" := ⟨.inl rfl, by decide, by decide⟩
theorem h_added_4 : Nm (defScope s_added) "other_times" := ⟨.inl rfl, by decide, by decide⟩
theorem h_added_5 : Nm (defScope s_added) "top" := ⟨.inl rfl, by decide, by decide⟩
theorem h_added_6 : Nm (defScope s_added) "rest" := ⟨.inl rfl, by decide, by decide⟩
theorem g_added_common_divisor : GlS (defScope s_added) "common_divisor" := rfl
theorem ok_added {P : Program} {w : World} {K : PySem.W.Frag} {mg : Str -> Option Value} {base : Heap} {f : Addr} {fd : FuncData} {cNoShares : Addr} (T : Txt K mg cNoShares) (F : Fun K "added" "added" s_added f fd) (c_common_divisor : Cal P w K mg base (CXe P w) 1 "common_divisor" ["one", "other"] (spP K mg f_common_divisor)) : FnOk P w K mg base (CXe P w) 2 f fd ["one", "other"] (spP K mg f_added) := by
 refine fnN F sc_added rfl rfl (fun cdv A outer s H E hr => ?_)
 have hu := hr.units
 exact (qz_cons (qz_asg (ag 2 sc_added.nd h_added_2 (qx_fn c_common_divisor (hr.mono (by decide)) passE0 (qxa_cons (qx_ix (qx_v (vg 0 h_added_0)) qx_int (fun _ _ => rfl)) (qxa_cons (qx_ix (qx_v (vg 1 h_added_1)) qx_int (fun _ _ => rfl)) qxa_nil)) (glg g_added_common_divisor) d_common_divisor)))
   (qz_cons (qz_asg (ag 3 sc_added.nd h_added_3 (qx_bin oa_fdiv lk2 (qx_ix (qx_v (vg 1 h_added_1)) qx_int (fun _ _ => rfl)) (qx_v (vg 2 h_added_2)))))
   (qz_cons (qz_asg (ag 4 sc_added.nd h_added_4 (qx_bin oa_fdiv lk2 (qx_ix (qx_v (vg 0 h_added_0)) qx_int (fun _ _ => rfl)) (qx_v (vg 2 h_added_2)))))
   (qz_cons (qz_asg (ag 5 sc_added.nd h_added_5 (qx_bin oa_add lk2 (qx_bin oa_mul lk2 (qx_ix (qx_v (vg 0 h_added_0)) qx_int (fun _ _ => rfl)) (qx_v (vg 3 h_added_3))) (qx_bin oa_mul lk2 (qx_ix (qx_v (vg 1 h_added_1)) qx_int (fun _ _ => rfl)) (qx_v (vg 4 h_added_4))))))
   (qz_cons (qz_asg (ag 6 sc_added.nd h_added_6 (qx_fn c_common_divisor (hr.mono (by decide)) passE0 (qxa_cons (qx_v (vg 2 h_added_2)) (qxa_cons (qx_v (vg 5 h_added_5)) qxa_nil)) (glg g_added_common_divisor) d_common_divisor)))
   (qz_one (qz_ret (qx_tup (qxa_cons (qx_bin oa_fdiv lk2 (qx_v (vg 5 h_added_5)) (qx_v (vg 6 h_added_6))) (qxa_cons (qx_bin oa_mul lk2 (qx_v (vg 4 h_added_4)) (qx_bin oa_fdiv lk2 (qx_ix (qx_v (vg 1 h_added_1)) qx_int (fun _ _ => rfl)) (qx_v (vg 6 h_added_6)))) qxa_nil))))))))))
abbrev s_lowest_place : Stmt := top 7
theorem sc_lowest_place : FnScope ["x", "y", "bottom", "divisor"] ["x", "y", "bottom"] (defScope s_lowest_place) := ⟨rfl, rfl, rfl, by decide +kernel, rfl, by decide +kernel, by decide +kernel⟩
theorem h_lowest_place_0 : Nm (defScope s_lowest_place) "x" := ⟨.inl rfl, by decide, by decide⟩
theorem h_lowest_place_1 : Nm (defScope s_lowest_place) "y" := ⟨.inl rfl, by decide, by decide⟩
theorem h_lowest_place_2 : Nm (defScope s_lowest_place) "bottom" := ⟨.inl rfl, by decide, by decide⟩
theorem h_lowest_place_3 : Nm (defScope s_lowest_place) "divisor" := ⟨.inl rfl, by decide, by decide⟩
theorem g_lowest_place_common_divisor : GlS (defScope s_lowest_place) "common_divisor" := rfl
theorem ok_lowest_place {P : Program} {w : World} {K : PySem.W.Frag} {mg : Str -> Option Value} {base : Heap} {f : Addr} {fd : FuncData} {cNoShares : Addr} (T : Txt K mg cNoShares) (F : Fun K "lowest_place" "lowest_place" s_lowest_place f fd) (c_common_divisor : Cal P w K mg base (CXe P w) 1 "common_divisor" ["one", "other"] (spP K mg f_common_divisor)) : FnOk P w K mg base (CXe P w) 2 f fd ["x", "y", "bottom"] (spP K mg f_lowest_place) := by
 refine fnN F sc_lowest_place rfl rfl (fun cdv A outer s H E hr => ?_)
 have hu := hr.units
 exact (qz_cons (qz_asg (ag 3 sc_lowest_place.nd h_lowest_place_3 (qx_fn c_common_divisor (hr.mono (by decide)) passE0 (qxa_cons (qx_fn c_common_divisor (hr.mono (by decide)) passE0 (qxa_cons (qx_v (vg 2 h_lowest_place_2)) (qxa_cons (qx_v (vg 0 h_lowest_place_0)) qxa_nil)) (glg g_lowest_place_common_divisor) d_common_divisor) (qxa_cons (qx_v (vg 1 h_lowest_place_1)) qxa_nil)) (glg g_lowest_place_common_divisor) d_common_divisor)))
   (qz_one (qz_ret (qx_tup (qxa_cons (qx_bin oa_fdiv lk2 (qx_v (vg 0 h_lowest_place_0)) (qx_v (vg 3 h_lowest_place_3))) (qxa_cons (qx_bin oa_fdiv lk2 (qx_v (vg 1 h_lowest_place_1)) (qx_v (vg 3 h_lowest_place_3))) (qxa_cons (qx_bin oa_fdiv lk2 (qx_v (vg 2 h_lowest_place_2)) (qx_v (vg 3 h_lowest_place_3))) qxa_nil)))))))
abbrev s_place_added : Stmt := top 8
theorem sc_place_added : FnScope ["one", "other", "shared", "one_times", "other_times", "x", "y", "rest"] ["one", "other"] (defScope s_place_added) := ⟨rfl, rfl, rfl, by decide +kernel, rfl, by decide +kernel, by decide +kernel⟩
theorem h_place_added_0 : Nm (defScope s_place_added) "one" := ⟨.inl rfl, by decide, by decide⟩
theorem h_place_added_1 : Nm (defScope s_place_added) "other" := ⟨.inl rfl, by decide, by decide⟩
theorem h_place_added_2 : Nm (defScope s_place_added) "shared" := ⟨.inl rfl, by decide, by decide⟩
theorem h_place_added_3 : Nm (defScope s_place_added) "one_times" := ⟨.inl rfl, by decide, by decide⟩
theorem h_place_added_4 : Nm (defScope s_place_added) "other_times" := ⟨.inl rfl, by decide, by decide⟩
theorem h_place_added_5 : Nm (defScope s_place_added) "x" := ⟨.inl rfl, by decide, by decide⟩
theorem h_place_added_6 : Nm (defScope s_place_added) "y" := ⟨.inl rfl, by decide, by decide⟩
theorem h_place_added_7 : Nm (defScope s_place_added) "rest" := ⟨.inl rfl, by decide, by decide⟩
theorem g_place_added_common_divisor : GlS (defScope s_place_added) "common_divisor" := rfl
theorem ok_place_added {P : Program} {w : World} {K : PySem.W.Frag} {mg : Str -> Option Value} {base : Heap} {f : Addr} {fd : FuncData} {cNoShares : Addr} (T : Txt K mg cNoShares) (F : Fun K "place_added" "place_added" s_place_added f fd) (c_common_divisor : Cal P w K mg base (CXe P w) 1 "common_divisor" ["one", "other"] (spP K mg f_common_divisor)) : FnOk P w K mg base (CXe P w) 2 f fd ["one", "other"] (spP K mg f_place_added) := by
 refine fnN F sc_place_added rfl rfl (fun cdv A outer s H E hr => ?_)
 have hu := hr.units
 exact (qz_cons (qz_asg (ag 2 sc_place_added.nd h_place_added_2 (qx_fn c_common_divisor (hr.mono (by decide)) passE0 (qxa_cons (qx_ix (qx_v (vg 0 h_place_added_0)) qx_int (fun _ _ => rfl)) (qxa_cons (qx_ix (qx_v (vg 1 h_place_added_1)) qx_int (fun _ _ => rfl)) qxa_nil)) (glg g_place_added_common_divisor) d_common_divisor)))
   (qz_cons (qz_asg (ag 3 sc_place_added.nd h_place_added_3 (qx_bin oa_fdiv lk2 (qx_ix (qx_v (vg 1 h_place_added_1)) qx_int (fun _ _ => rfl)) (qx_v (vg 2 h_place_added_2)))))
   (qz_cons (qz_asg (ag 4 sc_place_added.nd h_place_added_4 (qx_bin oa_fdiv lk2 (qx_ix (qx_v (vg 0 h_place_added_0)) qx_int (fun _ _ => rfl)) (qx_v (vg 2 h_place_added_2)))))
   (qz_cons (qz_asg (ag 5 sc_place_added.nd h_place_added_5 (qx_bin oa_add lk2 (qx_bin oa_mul lk2 (qx_ix (qx_v (vg 0 h_place_added_0)) qx_int (fun _ _ => rfl)) (qx_v (vg 3 h_place_added_3))) (qx_bin oa_mul lk2 (qx_ix (qx_v (vg 1 h_place_added_1)) qx_int (fun _ _ => rfl)) (qx_v (vg 4 h_place_added_4))))))
   (qz_cons (qz_asg (ag 6 sc_place_added.nd h_place_added_6 (qx_bin oa_add lk2 (qx_bin oa_mul lk2 (qx_ix (qx_v (vg 0 h_place_added_0)) qx_int (fun _ _ => rfl)) (qx_v (vg 3 h_place_added_3))) (qx_bin oa_mul lk2 (qx_ix (qx_v (vg 1 h_place_added_1)) qx_int (fun _ _ => rfl)) (qx_v (vg 4 h_place_added_4))))))
   (qz_cons (qz_asg (ag 7 sc_place_added.nd h_place_added_7 (qx_fn c_common_divisor (hr.mono (by decide)) passE0 (qxa_cons (qx_fn c_common_divisor (hr.mono (by decide)) passE0 (qxa_cons (qx_v (vg 2 h_place_added_2)) (qxa_cons (qx_v (vg 5 h_place_added_5)) qxa_nil)) (glg g_place_added_common_divisor) d_common_divisor) (qxa_cons (qx_v (vg 6 h_place_added_6)) qxa_nil)) (glg g_place_added_common_divisor) d_common_divisor)))
   (qz_one (qz_ret (qx_tup (qxa_cons (qx_bin oa_fdiv lk2 (qx_v (vg 5 h_place_added_5)) (qx_v (vg 7 h_place_added_7))) (qxa_cons (qx_bin oa_fdiv lk2 (qx_v (vg 6 h_place_added_6)) (qx_v (vg 7 h_place_added_7))) (qxa_cons (qx_bin oa_mul lk2 (qx_v (vg 4 h_place_added_4)) (qx_bin oa_fdiv lk2 (qx_ix (qx_v (vg 1 h_place_added_1)) qx_int (fun _ _ => rfl)) (qx_v (vg 7 h_place_added_7)))) qxa_nil))))))))))))
abbrev s_place_times : Stmt := top 9
theorem sc_place_times : FnScope ["place", "fraction"] ["place", "fraction"] (defScope s_place_times) := ⟨rfl, rfl, rfl, by decide +kernel, rfl, by decide +kernel, by decide +kernel⟩
theorem h_place_times_0 : Nm (defScope s_place_times) "place" := ⟨.inl rfl, by decide, by decide⟩
theorem h_place_times_1 : Nm (defScope s_place_times) "fraction" := ⟨.inl rfl, by decide, by decide⟩
theorem g_place_times_lowest_place : GlS (defScope s_place_times) "lowest_place" := rfl
theorem ok_place_times {P : Program} {w : World} {K : PySem.W.Frag} {mg : Str -> Option Value} {base : Heap} {f : Addr} {fd : FuncData} {cNoShares : Addr} (T : Txt K mg cNoShares) (F : Fun K "place_times" "place_times" s_place_times f fd) (c_lowest_place : Cal P w K mg base (CXe P w) 2 "lowest_place" ["x", "y", "bottom"] (spP K mg f_lowest_place)) : FnOk P w K mg base (CXe P w) 3 f fd ["place", "fraction"] (spP K mg f_place_times) := by
 refine fnN F sc_place_times rfl rfl (fun cdv A outer s H E hr => ?_)
 have hu := hr.units
 exact (qz_one (qz_ret (qx_fn c_lowest_place (hr.mono (by decide)) passE0 (qxa_cons (qx_bin oa_mul lk2 (qx_ix (qx_v (vg 0 h_place_times_0)) qx_int (fun _ _ => rfl)) (qx_ix (qx_v (vg 1 h_place_times_1)) qx_int (fun _ _ => rfl))) (qxa_cons (qx_bin oa_mul lk2 (qx_ix (qx_v (vg 0 h_place_times_0)) qx_int (fun _ _ => rfl)) (qx_ix (qx_v (vg 1 h_place_times_1)) qx_int (fun _ _ => rfl))) (qxa_cons (qx_bin oa_mul lk2 (qx_ix (qx_v (vg 0 h_place_times_0)) qx_int (fun _ _ => rfl)) (qx_ix (qx_v (vg 1 h_place_times_1)) qx_int (fun _ _ => rfl))) qxa_nil))) (glg g_place_times_lowest_place) d_lowest_place)))
abbrev s_is_share : Stmt := top 11
theorem sc_is_share : FnScope ["share"] ["share"] (defScope s_is_share) := ⟨rfl, rfl, rfl, by decide +kernel, rfl, by decide +kernel, by decide +kernel⟩
theorem h_is_share_0 : Nm (defScope s_is_share) "share" := ⟨.inl rfl, by decide, by decide⟩
theorem g_is_share_common_divisor : GlS (defScope s_is_share) "common_divisor" := rfl
theorem ok_is_share {P : Program} {w : World} {K : PySem.W.Frag} {mg : Str -> Option Value} {base : Heap} {f : Addr} {fd : FuncData} {cNoShares : Addr} (T : Txt K mg cNoShares) (F : Fun K "is_share" "is_share" s_is_share f fd) (c_common_divisor : Cal P w K mg base (CXe P w) 1 "common_divisor" ["one", "other"] (spP K mg f_common_divisor)) : FnOk P w K mg base (CXe P w) 2 f fd ["share"] (spP K mg f_is_share) := by
 refine fnN F sc_is_share rfl rfl (fun cdv A outer s H E hr => ?_)
 have hu := hr.units
 exact (qz_one (qz_ret (qx_and (qx_cmp (oc_gt hu) lk2 (qx_ix (qx_v (vg 0 h_is_share_0)) qx_int (fun _ _ => rfl)) qx_int (nomark _)) (qx_and (qx_cmp (oc_gt hu) lk2 (qx_ix (qx_v (vg 0 h_is_share_0)) qx_int (fun _ _ => rfl)) qx_int (nomark _)) (qx_one (qx_cmp (oc_eq hu) lk2 (qx_fn c_common_divisor (hr.mono (by decide)) passE0 (qxa_cons (qx_ix (qx_v (vg 0 h_is_share_0)) qx_int (fun _ _ => rfl)) (qxa_cons (qx_ix (qx_v (vg 0 h_is_share_0)) qx_int (fun _ _ => rfl)) qxa_nil)) (glg g_is_share_common_divisor) d_common_divisor) qx_int (nomark _)))))))
abbrev s_are_shares : Stmt := top 12
theorem sc_are_shares : FnScope ["wind", "shares", "ahead", "heading", "share"] ["wind", "shares"] (defScope s_are_shares) := ⟨rfl, rfl, rfl, by decide +kernel, rfl, by decide +kernel, by decide +kernel⟩
theorem h_are_shares_0 : Nm (defScope s_are_shares) "wind" := ⟨.inl rfl, by decide, by decide⟩
theorem h_are_shares_1 : Nm (defScope s_are_shares) "shares" := ⟨.inl rfl, by decide, by decide⟩
theorem h_are_shares_2 : Nm (defScope s_are_shares) "ahead" := ⟨.inl rfl, by decide, by decide⟩
theorem h_are_shares_3 : Nm (defScope s_are_shares) "heading" := ⟨.inl rfl, by decide, by decide⟩
theorem h_are_shares_4 : Nm (defScope s_are_shares) "share" := ⟨.inl rfl, by decide, by decide⟩
theorem g_are_shares_is_share : GlS (defScope s_are_shares) "is_share" := rfl
theorem g_are_shares_len : GlS (defScope s_are_shares) "len" := rfl
theorem ok_are_shares {P : Program} {w : World} {K : PySem.W.Frag} {mg : Str -> Option Value} {base : Heap} {f : Addr} {fd : FuncData} {cNoShares : Addr} (T : Txt K mg cNoShares) (F : Fun K "are_shares" "are_shares" s_are_shares f fd) (c_is_share : Cal P w K mg base (CXe P w) 2 "is_share" ["share"] (spP K mg f_is_share)) : FnOk P w K mg base (CXe P w) 3 f fd ["wind", "shares"] (spP K mg f_are_shares) := by
 refine fnN F sc_are_shares rfl rfl (fun cdv A outer s H E hr => ?_)
 have hu := hr.units
 exact (qz_cons (qz_asg (ag 2 sc_are_shares.nd h_are_shares_2 (qx_un ou_neg lk1 qx_int)))
   (qz_cons (qz_for (js := []) (g := (.tp [3, 4])) PassesOwn.never rfl (qi_x (qx_v (vg 1 h_are_shares_1))) (qg_tup rfl (qgs_cons (ng 3 sc_are_shares.nd h_are_shares_3) (qgs_cons (ng 4 sc_are_shares.nd h_are_shares_4) qgs_nil))) (qz_cons (qz_if (QW.pt (qwx_or (qt_cmp (oc_le hu) lk2 (qx_v (vg 3 h_are_shares_3)) (qx_v (vg 2 h_are_shares_2)) (nomark _)) (qwx_or (qt_cmp oc_ge lk2 (qx_v (vg 3 h_are_shares_3)) (qx_cb cb_len lkN (glg g_are_shares_len) T.n_len b_len (qxa_cons (qx_v (vg 0 h_are_shares_0)) qxa_nil) m_len d_len) (nomark _)) (qwx_or1 (qtx_not (qt_valx (qx_fn c_is_share (hr.mono (by decide)) passE0 (qxa_cons (qx_v (vg 4 h_are_shares_4)) qxa_nil) (glg g_are_shares_is_share) d_is_share))))))) (qz_one (qz_ret qx_bl)) qz_nil)
   (qz_one (qz_asg (ag 2 sc_are_shares.nd h_are_shares_2 (qx_v (vg 3 h_are_shares_3)))))))
   (qz_one (qz_ret qx_bl))))
abbrev s_shares_sum : Stmt := top 13
theorem sc_shares_sum : FnScope ["shares", "total", "heading", "share"] ["shares"] (defScope s_shares_sum) := ⟨rfl, rfl, rfl, by decide +kernel, rfl, by decide +kernel, by decide +kernel⟩
theorem h_shares_sum_0 : Nm (defScope s_shares_sum) "shares" := ⟨.inl rfl, by decide, by decide⟩
theorem h_shares_sum_1 : Nm (defScope s_shares_sum) "total" := ⟨.inl rfl, by decide, by decide⟩
theorem h_shares_sum_2 : Nm (defScope s_shares_sum) "heading" := ⟨.inl rfl, by decide, by decide⟩
theorem h_shares_sum_3 : Nm (defScope s_shares_sum) "share" := ⟨.inl rfl, by decide, by decide⟩
theorem g_shares_sum_added : GlS (defScope s_shares_sum) "added" := rfl
theorem ok_shares_sum {P : Program} {w : World} {K : PySem.W.Frag} {mg : Str -> Option Value} {base : Heap} {f : Addr} {fd : FuncData} {cNoShares : Addr} (T : Txt K mg cNoShares) (F : Fun K "shares_sum" "shares_sum" s_shares_sum f fd) (c_added : Cal P w K mg base (CXe P w) 2 "added" ["one", "other"] (spP K mg f_added)) : FnOk P w K mg base (CXe P w) 3 f fd ["shares"] (spP K mg f_shares_sum) := by
 refine fnN F sc_shares_sum rfl rfl (fun cdv A outer s H E hr => ?_)
 have hu := hr.units
 exact (qz_cons (qz_asg (ag 1 sc_shares_sum.nd h_shares_sum_1 (qx_tup (qxa_cons qx_int (qxa_cons qx_int qxa_nil)))))
   (qz_cons (qz_for (js := []) (g := (.tp [2, 3])) PassesOwn.never rfl (qi_x (qx_v (vg 0 h_shares_sum_0))) (qg_tup rfl (qgs_cons (ng 2 sc_shares_sum.nd h_shares_sum_2) (qgs_cons (ng 3 sc_shares_sum.nd h_shares_sum_3) qgs_nil))) (qz_one (qz_asg (ag 1 sc_shares_sum.nd h_shares_sum_1 (qx_fn c_added (hr.mono (by decide)) passE0 (qxa_cons (qx_v (vg 1 h_shares_sum_1)) (qxa_cons (qx_v (vg 3 h_shares_sum_3)) qxa_nil)) (glg g_shares_sum_added) d_added)))))
   (qz_one (qz_ret (qx_v (vg 1 h_shares_sum_1))))))
abbrev s_shares_end : Stmt := top 14
theorem sc_shares_end : FnScope ["wind", "shares", "end", "heading", "share", "vector"] ["wind", "shares"] (defScope s_shares_end) := ⟨rfl, rfl, rfl, by decide +kernel, rfl, by decide +kernel, by decide +kernel⟩
theorem h_shares_end_0 : Nm (defScope s_shares_end) "wind" := ⟨.inl rfl, by decide, by decide⟩
theorem h_shares_end_1 : Nm (defScope s_shares_end) "shares" := ⟨.inl rfl, by decide, by decide⟩
theorem h_shares_end_2 : Nm (defScope s_shares_end) "end" := ⟨.inl rfl, by decide, by decide⟩
theorem h_shares_end_3 : Nm (defScope s_shares_end) "heading" := ⟨.inl rfl, by decide, by decide⟩
theorem h_shares_end_4 : Nm (defScope s_shares_end) "share" := ⟨.inl rfl, by decide, by decide⟩
theorem h_shares_end_5 : Nm (defScope s_shares_end) "vector" := ⟨.inl rfl, by decide, by decide⟩
theorem g_shares_end_NoShares : GlS (defScope s_shares_end) "NoShares" := rfl
theorem g_shares_end_are_shares : GlS (defScope s_shares_end) "are_shares" := rfl
theorem g_shares_end_place_added : GlS (defScope s_shares_end) "place_added" := rfl
theorem g_shares_end_place_times : GlS (defScope s_shares_end) "place_times" := rfl
theorem ok_shares_end {P : Program} {w : World} {K : PySem.W.Frag} {mg : Str -> Option Value} {base : Heap} {f : Addr} {fd : FuncData} {cNoShares : Addr} (T : Txt K mg cNoShares) (F : Fun K "shares_end" "shares_end" s_shares_end f fd) (c_place_added : Cal P w K mg base (CXe P w) 2 "place_added" ["one", "other"] (spP K mg f_place_added)) (c_place_times : Cal P w K mg base (CXe P w) 3 "place_times" ["place", "fraction"] (spP K mg f_place_times)) (c_are_shares : Cal P w K mg base (CXe P w) 3 "are_shares" ["wind", "shares"] (spP K mg f_are_shares)) : FnOk P w K mg base (CXe P w) 4 f fd ["wind", "shares"] (spP K mg f_shares_end) := by
 refine fnE F sc_shares_end rfl rfl (fun cdv A outer s H E hr => ?_)
 have hu := hr.units
 exact (qz_cons (qz_if (qtx_not (qt_valx (qx_fn c_are_shares (hr.mono (by decide)) passE (qxa_cons (qx_v (vg 0 h_shares_end_0)) (qxa_cons (qx_v (vg 1 h_shares_end_1)) qxa_nil)) (glg g_shares_end_are_shares) d_are_shares))) (qz_one (qz_raise T.x_NoShares (glg g_shares_end_NoShares) d_NoShares)) qz_nil)
   (qz_cons (qz_asg (ag 2 sc_shares_end.nd h_shares_end_2 (qx_tup (qxa_cons qx_int (qxa_cons qx_int (qxa_cons qx_int qxa_nil))))))
   (qz_cons (qz_calm (qz_for (js := []) (g := (.tp [3, 4])) PassesOwn.never rfl (qi_x (qx_v (vg 1 h_shares_end_1))) (qg_tup rfl (qgs_cons (ng 3 sc_shares_end.nd h_shares_end_3) (qgs_cons (ng 4 sc_shares_end.nd h_shares_end_4) qgs_nil))) (qz_cons (qz_asg (ag 5 sc_shares_end.nd h_shares_end_5 (qx_ix (qx_v (vg 0 h_shares_end_0)) (qx_v (vg 3 h_shares_end_3)) (fun _ _ => rfl))))
   (qz_one (qz_asg (ag 2 sc_shares_end.nd h_shares_end_2 (qx_fn c_place_added (hr.mono (by decide)) passE0 (qxa_cons (qx_v (vg 2 h_shares_end_2)) (qxa_cons (qx_fn c_place_times (hr.mono (by decide)) passE0 (qxa_cons (qx_tup (qxa_cons (qx_ix (qx_v (vg 5 h_shares_end_5)) qx_int (fun _ _ => rfl)) (qxa_cons (qx_ix (qx_v (vg 5 h_shares_end_5)) qx_int (fun _ _ => rfl)) (qxa_cons qx_int qxa_nil)))) (qxa_cons (qx_v (vg 4 h_shares_end_4)) qxa_nil)) (glg g_shares_end_place_times) d_place_times) qxa_nil)) (glg g_shares_end_place_added) d_place_added)))))))
   (qz_one (qz_ret (qx_v (vg 2 h_shares_end_2)))))))
abbrev s_law_cell_at : Stmt := top 16
theorem sc_law_cell_at : FnScope ["script", "k"] ["script", "k"] (defScope s_law_cell_at) := ⟨rfl, rfl, rfl, by decide +kernel, rfl, by decide +kernel, by decide +kernel⟩
theorem h_law_cell_at_0 : Nm (defScope s_law_cell_at) "script" := ⟨.inl rfl, by decide, by decide⟩
theorem h_law_cell_at_1 : Nm (defScope s_law_cell_at) "k" := ⟨.inl rfl, by decide, by decide⟩
theorem g_law_cell_at_len : GlS (defScope s_law_cell_at) "len" := rfl
theorem ok_law_cell_at {P : Program} {w : World} {K : PySem.W.Frag} {mg : Str -> Option Value} {base : Heap} {f : Addr} {fd : FuncData} {cNoShares : Addr} (T : Txt K mg cNoShares) (F : Fun K "_law_cell_at" "_law_cell_at" s_law_cell_at f fd) : FnOk P w K mg base (CXe P w) 1 f fd ["script", "k"] (spP K mg f_law_cell_at_d411b) := by
 refine fnN F sc_law_cell_at rfl rfl (fun cdv A outer s H E hr => ?_)
 have hu := hr.units
 exact (qz_cons (qz_if (qt_cmp (oc_lt hu) lk2 (qx_v (vg 1 h_law_cell_at_1)) (qx_cb cb_len lkN (glg g_law_cell_at_len) T.n_len b_len (qxa_cons (qx_v (vg 0 h_law_cell_at_0)) qxa_nil) m_len d_len) (nomark _)) (qz_one (qz_ret (qx_ix (qx_v (vg 0 h_law_cell_at_0)) (qx_v (vg 1 h_law_cell_at_1)) (fun _ _ => rfl)))) qz_nil)
   (qz_one (qz_ret qx_int)))
abbrev s_law_mix : Stmt := top 17
theorem sc_law_mix : FnScope ["cell", "k", "prime", "number"] ["cell", "k"] (defScope s_law_mix) := ⟨rfl, rfl, rfl, by decide +kernel, rfl, by decide +kernel, by decide +kernel⟩
theorem h_law_mix_0 : Nm (defScope s_law_mix) "cell" := ⟨.inl rfl, by decide, by decide⟩
theorem h_law_mix_1 : Nm (defScope s_law_mix) "k" := ⟨.inl rfl, by decide, by decide⟩
theorem h_law_mix_2 : Nm (defScope s_law_mix) "prime" := ⟨.inl rfl, by decide, by decide⟩
theorem h_law_mix_3 : Nm (defScope s_law_mix) "number" := ⟨.inl rfl, by decide, by decide⟩
theorem ok_law_mix {P : Program} {w : World} {K : PySem.W.Frag} {mg : Str -> Option Value} {base : Heap} {f : Addr} {fd : FuncData} {cNoShares : Addr} (T : Txt K mg cNoShares) (F : Fun K "_law_mix" "_law_mix" s_law_mix f fd) : FnOk P w K mg base (CXe P w) 1 f fd ["cell", "k"] (spP K mg f_law_mix_a2b94) := by
 refine fnN F sc_law_mix rfl rfl (fun cdv A outer s H E hr => ?_)
 have hu := hr.units
 exact (qz_cons (qz_asg (ag 2 sc_law_mix.nd h_law_mix_2 qx_int))
   (qz_cons (qz_asg (ag 3 sc_law_mix.nd h_law_mix_3 (qx_bin oa_mod lk2 (qx_bin oa_mul lk2 (qx_bin oa_add lk2 (qx_bin oa_add lk2 (qx_bin oa_mod lk2 (qx_v (vg 0 h_law_mix_0)) (qx_v (vg 2 h_law_mix_2))) (qx_bin oa_mul lk2 qx_int (qx_v (vg 1 h_law_mix_1)))) qx_int) qx_int) (qx_v (vg 2 h_law_mix_2)))))
   (qz_one (qz_ret (qx_bin oa_fdiv lk2 (qx_bin oa_mod lk2 (qx_bin oa_mul lk2 (qx_bin oa_mod lk2 (qx_bin oa_mul lk2 (qx_v (vg 3 h_law_mix_3)) (qx_v (vg 3 h_law_mix_3))) (qx_v (vg 2 h_law_mix_2))) qx_int) (qx_v (vg 2 h_law_mix_2))) qx_int)))))
abbrev s_law_same : Stmt := top 18
theorem sc_law_same : FnScope ["found", "due", "k"] ["found", "due"] (defScope s_law_same) := ⟨rfl, rfl, rfl, by decide +kernel, rfl, by decide +kernel, by decide +kernel⟩
theorem h_law_same_0 : Nm (defScope s_law_same) "found" := ⟨.inl rfl, by decide, by decide⟩
theorem h_law_same_1 : Nm (defScope s_law_same) "due" := ⟨.inl rfl, by decide, by decide⟩
theorem h_law_same_2 : Nm (defScope s_law_same) "k" := ⟨.inl rfl, by decide, by decide⟩
theorem g_law_same__law_same : GlS (defScope s_law_same) "_law_same" := rfl
theorem g_law_same_bool : GlS (defScope s_law_same) "bool" := rfl
theorem g_law_same_int : GlS (defScope s_law_same) "int" := rfl
theorem g_law_same_isinstance : GlS (defScope s_law_same) "isinstance" := rfl
theorem g_law_same_len : GlS (defScope s_law_same) "len" := rfl
theorem g_law_same_range : GlS (defScope s_law_same) "range" := rfl
theorem g_law_same_str : GlS (defScope s_law_same) "str" := rfl
theorem g_law_same_tuple : GlS (defScope s_law_same) "tuple" := rfl
theorem ok_law_same {P : Program} {w : World} {K : PySem.W.Frag} {mg : Str -> Option Value} {base : Heap} {f : Addr} {fd : FuncData} {cNoShares : Addr} {n k : Nat} (T : Txt K mg cNoShares) (F : Fun K "_law_same" "_law_same" s_law_same f fd) (c__law_same : Cal P w K mg base (CXe P w) k "_law_same" ["found", "due"] (spP K mg (f_law_same_a1d8f_r n))) (hk : 0 <= k) : FnOk P w K mg base (CXe P w) (k + 1) f fd ["found", "due"] (spP K mg (f_law_same_a1d8f_r (n + 1))) := by
 refine fnN F sc_law_same rfl rfl (fun cdv A outer s H E hr => ?_)
 have hu := hr.units
 exact (qz_cons (qz_if (qt_valx (qx_isi (T := "tuple") (by decide) (glg g_law_same_isinstance) T.n_isinstance (qx_v (vg 1 h_law_same_1)) (qe_bltn (v := .ty "tuple") (glg g_law_same_tuple) T.n_tuple b_tuple rfl m_tuple d_tuple))) (qz_cons (qz_if (QW.pt (qwx_or (qtx_not (qt_valx (qx_isi (T := "tuple") (by decide) (glg g_law_same_isinstance) T.n_isinstance (qx_v (vg 0 h_law_same_0)) (qe_bltn (v := .ty "tuple") (glg g_law_same_tuple) T.n_tuple b_tuple rfl m_tuple d_tuple)))) (qwx_or1 (qt_cmp (oc_ne hu) lk2 (qx_cb cb_len lkN (glg g_law_same_len) T.n_len b_len (qxa_cons (qx_v (vg 0 h_law_same_0)) qxa_nil) m_len d_len) (qx_cb cb_len lkN (glg g_law_same_len) T.n_len b_len (qxa_cons (qx_v (vg 1 h_law_same_1)) qxa_nil) m_len d_len) (nomark _))))) (qz_one (qz_ret qx_bl)) qz_nil)
   (qz_cons (qz_forr1 (g := (.nm 2)) PassesOwn.never rfl (glg g_law_same_range) T.n_range (qxa_cons (qx_cb cb_len lkN (glg g_law_same_len) T.n_len b_len (qxa_cons (qx_v (vg 1 h_law_same_1)) qxa_nil) m_len d_len) qxa_nil) (ng 2 sc_law_same.nd h_law_same_2) (qz_one (qz_if (qtx_not (qt_valx (qx_fn c__law_same (hr.mono (by omega)) passE0 (qxa_cons (qx_ix (qx_v (vg 0 h_law_same_0)) (qx_v (vg 2 h_law_same_2)) (fun _ _ => rfl)) (qxa_cons (qx_ix (qx_v (vg 1 h_law_same_1)) (qx_v (vg 2 h_law_same_2)) (fun _ _ => rfl)) qxa_nil)) (glg g_law_same__law_same) d__law_same))) (qz_one (qz_ret qx_bl)) qz_nil)))
   (qz_one (qz_ret qx_bl)))) qz_nil)
   (qz_cons (qz_if (qt_cmp oc_is lk2 (qx_v (vg 1 h_law_same_1)) qx_non (nomark _)) (qz_one (qz_ret (qx_cmp oc_is lk2 (qx_v (vg 0 h_law_same_0)) qx_non (nomark _)))) qz_nil)
   (qz_cons (qz_if (qt_valx (qx_isi (T := "str") (by decide) (glg g_law_same_isinstance) T.n_isinstance (qx_v (vg 1 h_law_same_1)) (qe_bltn (v := .ty "str") (glg g_law_same_str) T.n_str b_str rfl m_str d_str))) (qz_one (qz_ret (qx_and (qx_isi (T := "str") (by decide) (glg g_law_same_isinstance) T.n_isinstance (qx_v (vg 0 h_law_same_0)) (qe_bltn (v := .ty "str") (glg g_law_same_str) T.n_str b_str rfl m_str d_str)) (qx_one (qx_cmp (oc_eq hu) lk2 (qx_v (vg 0 h_law_same_0)) (qx_v (vg 1 h_law_same_1)) (nomark _)))))) qz_nil)
   (qz_cons (qz_if (QW.pt (qwx_or (qtx_not (qt_valx (qx_isi (T := "int") (by decide) (glg g_law_same_isinstance) T.n_isinstance (qx_v (vg 0 h_law_same_0)) (qe_bltn (v := .ty "int") (glg g_law_same_int) T.n_int b_int rfl m_int d_int)))) (qwx_or1 (qt_cmp (oc_ne hu) lk2 (qx_isi (T := "bool") (by decide) (glg g_law_same_isinstance) T.n_isinstance (qx_v (vg 0 h_law_same_0)) (qe_bltn (v := .ty "bool") (glg g_law_same_bool) T.n_bool b_bool rfl m_bool d_bool)) (qx_isi (T := "bool") (by decide) (glg g_law_same_isinstance) T.n_isinstance (qx_v (vg 1 h_law_same_1)) (qe_bltn (v := .ty "bool") (glg g_law_same_bool) T.n_bool b_bool rfl m_bool d_bool)) (nomark _))))) (qz_one (qz_ret qx_bl)) qz_nil)
   (qz_one (qz_ret (qx_cmp (oc_eq hu) lk2 (qx_v (vg 0 h_law_same_0)) (qx_v (vg 1 h_law_same_1)) (nomark _))))))))
abbrev s_law_vector : Stmt := top 19
theorem sc_law_vector : FnScope ["cell", "k", "most", "east"] ["cell", "k", "most"] (defScope s_law_vector) := ⟨rfl, rfl, rfl, by decide +kernel, rfl, by decide +kernel, by decide +kernel⟩
theorem h_law_vector_0 : Nm (defScope s_law_vector) "cell" := ⟨.inl rfl, by decide, by decide⟩
theorem h_law_vector_1 : Nm (defScope s_law_vector) "k" := ⟨.inl rfl, by decide, by decide⟩
theorem h_law_vector_2 : Nm (defScope s_law_vector) "most" := ⟨.inl rfl, by decide, by decide⟩
theorem h_law_vector_3 : Nm (defScope s_law_vector) "east" := ⟨.inl rfl, by decide, by decide⟩
theorem g_law_vector__law_mix : GlS (defScope s_law_vector) "_law_mix" := rfl
theorem ok_law_vector {P : Program} {w : World} {K : PySem.W.Frag} {mg : Str -> Option Value} {base : Heap} {f : Addr} {fd : FuncData} {cNoShares : Addr} (T : Txt K mg cNoShares) (F : Fun K "_law_vector" "_law_vector" s_law_vector f fd) (c__law_mix : Cal P w K mg base (CXe P w) 1 "_law_mix" ["cell", "k"] (spP K mg f_law_mix_a2b94)) : FnOk P w K mg base (CXe P w) 2 f fd ["cell", "k", "most"] (spP K mg f_law_vector_5237a) := by
 refine fnN F sc_law_vector rfl rfl (fun cdv A outer s H E hr => ?_)
 have hu := hr.units
 exact (qz_cons (qz_asg (ag 3 sc_law_vector.nd h_law_vector_3 (qx_bin oa_sub lk2 (qx_bin oa_mod lk2 (qx_fn c__law_mix (hr.mono (by decide)) passE0 (qxa_cons (qx_v (vg 0 h_law_vector_0)) (qxa_cons (qx_v (vg 1 h_law_vector_1)) qxa_nil)) (glg g_law_vector__law_mix) d__law_mix) (qx_bin oa_add lk2 (qx_bin oa_mul lk2 qx_int (qx_v (vg 2 h_law_vector_2))) qx_int)) (qx_v (vg 2 h_law_vector_2)))))
   (qz_one (qz_ret (qx_tup (qxa_cons (qx_v (vg 3 h_law_vector_3)) (qxa_cons (qx_bin oa_sub lk2 (qx_bin oa_mod lk2 (qx_fn c__law_mix (hr.mono (by decide)) passE0 (qxa_cons (qx_v (vg 0 h_law_vector_0)) (qxa_cons (qx_bin oa_add lk2 (qx_v (vg 1 h_law_vector_1)) qx_int) qxa_nil)) (glg g_law_vector__law_mix) d__law_mix) (qx_bin oa_add lk2 (qx_bin oa_mul lk2 qx_int (qx_v (vg 2 h_law_vector_2))) qx_int)) (qx_v (vg 2 h_law_vector_2))) qxa_nil))))))
abbrev s_law_digits : Stmt := top 20
theorem sc_law_digits : FnScope ["cell", "far", "wide"] ["cell", "far"] (defScope s_law_digits) := ⟨rfl, rfl, rfl, by decide +kernel, rfl, by decide +kernel, by decide +kernel⟩
theorem h_law_digits_0 : Nm (defScope s_law_digits) "cell" := ⟨.inl rfl, by decide, by decide⟩
theorem h_law_digits_1 : Nm (defScope s_law_digits) "far" := ⟨.inl rfl, by decide, by decide⟩
theorem h_law_digits_2 : Nm (defScope s_law_digits) "wide" := ⟨.inl rfl, by decide, by decide⟩
theorem ok_law_digits {P : Program} {w : World} {K : PySem.W.Frag} {mg : Str -> Option Value} {base : Heap} {f : Addr} {fd : FuncData} {cNoShares : Addr} (T : Txt K mg cNoShares) (F : Fun K "_law_digits" "_law_digits" s_law_digits f fd) : FnOk P w K mg base (CXe P w) 1 f fd ["cell", "far"] (spP K mg f_law_digits_322a4) := by
 refine fnN F sc_law_digits rfl rfl (fun cdv A outer s H E hr => ?_)
 have hu := hr.units
 exact (qz_cons (qz_asg (ag 2 sc_law_digits.nd h_law_digits_2 (qx_bin oa_add lk2 (qx_bin oa_mul lk2 qx_int (qx_v (vg 1 h_law_digits_1))) qx_int)))
   (qz_one (qz_ret (qx_tup (qxa_cons (qx_bin oa_sub lk2 (qx_bin oa_mod lk2 (qx_v (vg 0 h_law_digits_0)) (qx_v (vg 2 h_law_digits_2))) (qx_v (vg 1 h_law_digits_1))) (qxa_cons (qx_bin oa_sub lk2 (qx_bin oa_mod lk2 (qx_bin oa_fdiv lk2 (qx_v (vg 0 h_law_digits_0)) (qx_v (vg 2 h_law_digits_2))) (qx_v (vg 2 h_law_digits_2))) (qx_v (vg 1 h_law_digits_1))) qxa_nil))))))
abbrev s_law_within : Stmt := top 21
theorem sc_law_within : FnScope ["number"] ["number"] (defScope s_law_within) := ⟨rfl, rfl, rfl, by decide +kernel, rfl, by decide +kernel, by decide +kernel⟩
theorem h_law_within_0 : Nm (defScope s_law_within) "number" := ⟨.inl rfl, by decide, by decide⟩
theorem g_law_within_max : GlS (defScope s_law_within) "max" := rfl
theorem g_law_within_min : GlS (defScope s_law_within) "min" := rfl
theorem ok_law_within {P : Program} {w : World} {K : PySem.W.Frag} {mg : Str -> Option Value} {base : Heap} {f : Addr} {fd : FuncData} {cNoShares : Addr} (T : Txt K mg cNoShares) (F : Fun K "_law_within" "_law_within" s_law_within f fd) : FnOk P w K mg base (CXe P w) 1 f fd ["number"] (spP K mg f_law_within_5c1cf) := by
 refine fnN F sc_law_within rfl rfl (fun cdv A outer s H E hr => ?_)
 have hu := hr.units
 exact (qz_one (qz_ret (qx_cb (cb_max2 rfl) lkN (glg g_law_within_max) T.n_max b_max (qxa_cons (qx_un ou_neg lk1 (qx_bin oa_pow lk2 qx_int qx_int)) (qxa_cons (qx_cb (cb_min2 rfl) lkN (glg g_law_within_min) T.n_min b_min (qxa_cons (qx_bin oa_pow lk2 qx_int qx_int) (qxa_cons (qx_v (vg 0 h_law_within_0)) qxa_nil)) m_min d_min) qxa_nil)) m_max d_max)))
abbrev s_law_wind : Stmt := top 22
theorem sc_law_wind : FnScope ["cells", "most", "first", "step", "way", "rows", "cell", "heading", "turn"] ["cells", "most"] (defScope s_law_wind) := ⟨rfl, rfl, rfl, by decide +kernel, rfl, by decide +kernel, by decide +kernel⟩
theorem h_law_wind_0 : Nm (defScope s_law_wind) "cells" := ⟨.inl rfl, by decide, by decide⟩
theorem h_law_wind_1 : Nm (defScope s_law_wind) "most" := ⟨.inl rfl, by decide, by decide⟩
theorem h_law_wind_2 : Nm (defScope s_law_wind) "first" := ⟨.inl rfl, by decide, by decide⟩
theorem h_law_wind_3 : Nm (defScope s_law_wind) "step" := ⟨.inl rfl, by decide, by decide⟩
theorem h_law_wind_4 : Nm (defScope s_law_wind) "way" := ⟨.inl rfl, by decide, by decide⟩
theorem h_law_wind_5 : Nm (defScope s_law_wind) "rows" := ⟨.inl rfl, by decide, by decide⟩
theorem h_law_wind_6 : Nm (defScope s_law_wind) "cell" := ⟨.inl rfl, by decide, by decide⟩
theorem h_law_wind_7 : Nm (defScope s_law_wind) "heading" := ⟨.inl rfl, by decide, by decide⟩
theorem h_law_wind_8 : Nm (defScope s_law_wind) "turn" := ⟨.inl rfl, by decide, by decide⟩
theorem g_law_wind__law_mix : GlS (defScope s_law_wind) "_law_mix" := rfl
theorem g_law_wind__law_vector : GlS (defScope s_law_wind) "_law_vector" := rfl
theorem g_law_wind__law_within : GlS (defScope s_law_wind) "_law_within" := rfl
theorem g_law_wind_tuple : GlS (defScope s_law_wind) "tuple" := rfl
theorem ok_law_wind {P : Program} {w : World} {K : PySem.W.Frag} {mg : Str -> Option Value} {base : Heap} {f : Addr} {fd : FuncData} {cNoShares : Addr} (T : Txt K mg cNoShares) (F : Fun K "_law_wind" "_law_wind" s_law_wind f fd) (c__law_mix : Cal P w K mg base (CXe P w) 1 "_law_mix" ["cell", "k"] (spP K mg f_law_mix_a2b94)) (c__law_vector : Cal P w K mg base (CXe P w) 2 "_law_vector" ["cell", "k", "most"] (spP K mg f_law_vector_5237a)) (c__law_within : Cal P w K mg base (CXe P w) 1 "_law_within" ["number"] (spP K mg f_law_within_5c1cf)) : FnOk P w K mg base (CXe P w) 3 f fd ["cells", "most"] (spP K mg f_law_wind_28f7f) := by
 refine fnN F sc_law_wind rfl rfl (fun cdv A outer s H E hr => ?_)
 have hu := hr.units
 exact (qz_cons (qz_asg (ag 2 sc_law_wind.nd h_law_wind_2 (qx_fn c__law_vector (hr.mono (by decide)) passE0 (qxa_cons (qx_ix (qx_v (vg 0 h_law_wind_0)) qx_int (fun _ _ => rfl)) (qxa_cons qx_int (qxa_cons (qx_v (vg 1 h_law_wind_1)) qxa_nil))) (glg g_law_wind__law_vector) d__law_vector)))
   (qz_cons (qz_asg (ag 3 sc_law_wind.nd h_law_wind_3 (qx_fn c__law_vector (hr.mono (by decide)) passE0 (qxa_cons (qx_ix (qx_v (vg 0 h_law_wind_0)) qx_int (fun _ _ => rfl)) (qxa_cons qx_int (qxa_cons qx_int qxa_nil))) (glg g_law_wind__law_vector) d__law_vector)))
   (qz_cons (qz_asg (ag 4 sc_law_wind.nd h_law_wind_4 (qx_bin oa_mod lk2 (qx_fn c__law_mix (hr.mono (by decide)) passE0 (qxa_cons (qx_ix (qx_v (vg 0 h_law_wind_0)) qx_int (fun _ _ => rfl)) (qxa_cons qx_int qxa_nil)) (glg g_law_wind__law_mix) d__law_mix) qx_int)))
   (qz_cons (qz_own (ag 5 sc_law_wind.nd h_law_wind_5 (qf_lst qxa_nil)))
   (qz_cons (qz_for (js := []) (g := (.nm 6)) PassesOwn.never rfl (qi_x (qx_v (vg 0 h_law_wind_0))) (ng 6 sc_law_wind.nd h_law_wind_6) (qz_cons (qz_asg (ag 7 sc_law_wind.nd h_law_wind_7 (qx_fn c__law_vector (hr.mono (by decide)) passE0 (qxa_cons (qx_v (vg 6 h_law_wind_6)) (qxa_cons qx_int (qxa_cons (qx_v (vg 1 h_law_wind_1)) qxa_nil))) (glg g_law_wind__law_vector) d__law_vector)))
   (qz_cons (qz_asg (ag 8 sc_law_wind.nd h_law_wind_8 (qx_bin oa_sub lk2 (qx_bin oa_mod lk2 (qx_fn c__law_mix (hr.mono (by decide)) passE0 (qxa_cons (qx_v (vg 6 h_law_wind_6)) (qxa_cons qx_int qxa_nil)) (glg g_law_wind__law_mix) d__law_mix) qx_int) qx_int)))
   (qz_cons (qz_if (qt_cmp (oc_eq hu) lk2 (qx_v (vg 4 h_law_wind_4)) qx_int (nomark _)) (qz_one (qz_asg (ag 7 sc_law_wind.nd h_law_wind_7 (qx_tup (qxa_cons (qx_fn c__law_within (hr.mono (by decide)) passE0 (qxa_cons (qx_bin oa_add lk2 (qx_ix (qx_v (vg 2 h_law_wind_2)) qx_int (fun _ _ => rfl)) (qx_bin oa_mul lk2 (qx_v (vg 8 h_law_wind_8)) (qx_ix (qx_v (vg 3 h_law_wind_3)) qx_int (fun _ _ => rfl)))) qxa_nil) (glg g_law_wind__law_within) d__law_within) (qxa_cons (qx_fn c__law_within (hr.mono (by decide)) passE0 (qxa_cons (qx_bin oa_add lk2 (qx_ix (qx_v (vg 2 h_law_wind_2)) qx_int (fun _ _ => rfl)) (qx_bin oa_mul lk2 (qx_v (vg 8 h_law_wind_8)) (qx_ix (qx_v (vg 3 h_law_wind_3)) qx_int (fun _ _ => rfl)))) qxa_nil) (glg g_law_wind__law_within) d__law_within) qxa_nil)))))) qz_nil)
   (qz_cons (qz_if (qt_cmp (oc_eq hu) lk2 (qx_v (vg 4 h_law_wind_4)) qx_int (nomark _)) (qz_one (qz_asg (ag 7 sc_law_wind.nd h_law_wind_7 (qx_v (vg 2 h_law_wind_2))))) qz_nil)
   (qz_one (qz_app (vg 5 h_law_wind_5) (qxa_cons (qx_v (vg 7 h_law_wind_7)) qxa_nil))))))))
   (qz_one (qz_ret (qx_cty ct_tuple lkN (glg g_law_wind_tuple) T.n_tuple b_tuple (qxa_cons (qx_v (vg 5 h_law_wind_5)) qxa_nil) m_tuple d_tuple))))))))
abbrev s_law_far_off : Stmt := top 23
theorem sc_law_far_off : FnScope ["wind"] ["wind"] (defScope s_law_far_off) := ⟨rfl, rfl, rfl, by decide +kernel, rfl, by decide +kernel, by decide +kernel⟩
theorem h_law_far_off_0 : Nm (defScope s_law_far_off) "wind" := ⟨.inl rfl, by decide, by decide⟩
theorem g_law_far_off_tuple : GlS (defScope s_law_far_off) "tuple" := rfl
theorem ok_law_far_off {P : Program} {w : World} {K : PySem.W.Frag} {mg : Str -> Option Value} {base : Heap} {f : Addr} {fd : FuncData} {cNoShares : Addr} (T : Txt K mg cNoShares) (F : Fun K "_law_far_off" "_law_far_off" s_law_far_off f fd) : FnOk P w K mg base (CXe P w) 1 f fd ["wind"] (spP K mg f_law_far_off_b901c) := by
 refine fnN F sc_law_far_off rfl rfl (fun cdv A outer s H E hr => ?_)
 have hu := hr.units
 exact (qz_one (qz_ret (qx_cty ct_tuple lkN (glg g_law_far_off_tuple) T.n_tuple b_tuple (qxa_cons (QF.qx (qf_comp (tg := (.nm 0)) (ct := none) rfl (qi_x (qx_v (vg 0 h_law_far_off_0))) rfl (capOk.ok (N' := ["heading"]) (xn := ["wind"]) (nt := 1) (js := []) (osc := defScope s_law_far_off) rfl rfl (by decide +kernel)) rfl (fun C s2 H2 fp => (qg_nmx (i := 0) (show List.Nodup (["heading"] : List Str) from by decide) rfl rfl)) trivial (fun C s2 H2 fp => (qx_tup (qxa_cons (qx_bin oa_mul lk2 (qx_bin oa_mul lk2 (qx_ix (qx_v (qv 0)) qx_int (fun _ _ => rfl)) (qx_bin oa_pow lk2 qx_int qx_int)) (qx_bin oa_pow lk2 qx_int qx_int)) (qxa_cons (qx_bin oa_mul lk2 (qx_bin oa_mul lk2 (qx_ix (qx_v (qv 0)) qx_int (fun _ _ => rfl)) (qx_bin oa_pow lk2 qx_int qx_int)) (qx_bin oa_pow lk2 qx_int qx_int)) qxa_nil)))))) qxa_nil) m_tuple d_tuple)))
abbrev s_law_free_pairs : Stmt := top 24
theorem sc_law_free_pairs : FnScope ["cells", "far", "pairs", "at", "size", "rows"] ["cells", "far"] (defScope s_law_free_pairs) := ⟨rfl, rfl, rfl, by decide +kernel, rfl, by decide +kernel, by decide +kernel⟩
theorem h_law_free_pairs_0 : Nm (defScope s_law_free_pairs) "cells" := ⟨.inl rfl, by decide, by decide⟩
theorem h_law_free_pairs_2 : Nm (defScope s_law_free_pairs) "pairs" := ⟨.inl rfl, by decide, by decide⟩
theorem h_law_free_pairs_3 : Nm (defScope s_law_free_pairs) "at" := ⟨.inl rfl, by decide, by decide⟩
theorem h_law_free_pairs_4 : Nm (defScope s_law_free_pairs) "size" := ⟨.inl rfl, by decide, by decide⟩
theorem h_law_free_pairs_5 : Nm (defScope s_law_free_pairs) "rows" := ⟨.inl rfl, by decide, by decide⟩
theorem g_law_free_pairs_int : GlS (defScope s_law_free_pairs) "int" := rfl
theorem g_law_free_pairs_len : GlS (defScope s_law_free_pairs) "len" := rfl
theorem g_law_free_pairs_tuple : GlS (defScope s_law_free_pairs) "tuple" := rfl
theorem ok_law_free_pairs {P : Program} {w : World} {K : PySem.W.Frag} {mg : Str -> Option Value} {base : Heap} {f : Addr} {fd : FuncData} {cNoShares : Addr} (T : Txt K mg cNoShares) (F : Fun K "_law_free_pairs" "_law_free_pairs" s_law_free_pairs f fd) (c__law_digits : Cal P w K mg base (CXe P w) 1 "_law_digits" ["cell", "far"] (spP K mg f_law_digits_322a4)) : FnOk P w K mg base (CXe P w) 2 f fd ["cells", "far"] (spP K mg f_law_free_pairs_d0d6d) := by
 refine fnN F sc_law_free_pairs rfl rfl (fun cdv A outer s H E hr => ?_)
 have hu := hr.units
 exact (qz_cons (qz_own (ag 2 sc_law_free_pairs.nd h_law_free_pairs_2 (qf_lst qxa_nil)))
   (qz_cons (qz_asg (ag 3 sc_law_free_pairs.nd h_law_free_pairs_3 qx_int))
   (qz_cons (qz_while PassesOwn.never (qt_cmp (oc_lt hu) lk2 (qx_v (vg 3 h_law_free_pairs_3)) (qx_cb cb_len lkN (glg g_law_free_pairs_len) T.n_len b_len (qxa_cons (qx_v (vg 0 h_law_free_pairs_0)) qxa_nil) m_len d_len) (nomark _)) (qz_cons (qz_asg (ag 4 sc_law_free_pairs.nd h_law_free_pairs_4 (qx_bin oa_add lk2 qx_int (qx_bin oa_mod lk2 (qx_ix (qx_v (vg 0 h_law_free_pairs_0)) (qx_v (vg 3 h_law_free_pairs_3)) (fun _ _ => rfl)) qx_int))))
   (qz_cons (qz_own (ag 5 sc_law_free_pairs.nd h_law_free_pairs_5 (qf_addL (qx_sl (qx_v (vg 0 h_law_free_pairs_0)) (qp_some (qx_bin oa_add lk2 (qx_v (vg 3 h_law_free_pairs_3)) qx_int)) (qp_some (qx_bin oa_add lk2 (qx_bin oa_add lk2 (qx_v (vg 3 h_law_free_pairs_3)) qx_int) (qx_v (vg 4 h_law_free_pairs_4))))) (qx_bin oa_mulL lk2 (QF.qx (qf_lst (qxa_cons qx_int qxa_nil))) (qx_cty ct_int lkN (glg g_law_free_pairs_int) T.n_int b_int (qxa_cons (qx_cmp (oc_eq hu) lk2 (qx_bin oa_add lk2 (qx_v (vg 3 h_law_free_pairs_3)) qx_int) (qx_cb cb_len lkN (glg g_law_free_pairs_len) T.n_len b_len (qxa_cons (qx_v (vg 0 h_law_free_pairs_0)) qxa_nil) m_len d_len) (nomark _)) qxa_nil) m_int d_int)))))
   (qz_cons (qz_app (vg 2 h_law_free_pairs_2) (qxa_cons (qx_tup (qxa_cons (qx_cty ct_tuple lkN (glg g_law_free_pairs_tuple) T.n_tuple b_tuple (qxa_cons (QF.qx (qf_comp (tg := (.nm 0)) (ct := none) rfl (qi_x (qx_v (vg 5 h_law_free_pairs_5))) rfl (capOk.ok (N' := ["cell", "far"]) (xn := ["cells", "far", "pairs", "at", "size", "rows"]) (nt := 1) (js := [1]) (osc := defScope s_law_free_pairs) rfl rfl (by decide +kernel)) rfl (fun C s2 H2 fp => (qg_nmx (i := 0) (show List.Nodup (["cell", "far"] : List Str) from by decide) rfl rfl)) trivial (fun C s2 H2 fp => (qx_fn c__law_digits (hr.mono (by decide)) passE0 (qxa_cons (qx_v (qv 0)) (qxa_cons (qx_v (qv 1)) qxa_nil)) (by rfl) d__law_digits)))) qxa_nil) m_tuple d_tuple) (qxa_cons (qx_bin oa_fdiv lk2 (qx_ix (qx_v (vg 0 h_law_free_pairs_0)) (qx_v (vg 3 h_law_free_pairs_3)) (fun _ _ => rfl)) qx_int) qxa_nil))) qxa_nil))
   (qz_one (qz_asg (ag 3 sc_law_free_pairs.nd h_law_free_pairs_3 (qx_bin oa_add lk2 (qx_bin oa_add lk2 (qx_v (vg 3 h_law_free_pairs_3)) qx_int) (qx_v (vg 4 h_law_free_pairs_4))))))))))
   (qz_one (qz_ret (qx_v (vg 2 h_law_free_pairs_2)))))))
abbrev s_law_pairs : Stmt := top 25
theorem sc_law_pairs : FnScope ["script", "head", "cells", "most", "pairs", "at", "size"] ["script"] (defScope s_law_pairs) := ⟨rfl, rfl, rfl, by decide +kernel, rfl, by decide +kernel, by decide +kernel⟩
theorem h_law_pairs_0 : Nm (defScope s_law_pairs) "script" := ⟨.inl rfl, by decide, by decide⟩
theorem h_law_pairs_1 : Nm (defScope s_law_pairs) "head" := ⟨.inl rfl, by decide, by decide⟩
theorem h_law_pairs_2 : Nm (defScope s_law_pairs) "cells" := ⟨.inl rfl, by decide, by decide⟩
theorem h_law_pairs_3 : Nm (defScope s_law_pairs) "most" := ⟨.inl rfl, by decide, by decide⟩
theorem h_law_pairs_4 : Nm (defScope s_law_pairs) "pairs" := ⟨.inl rfl, by decide, by decide⟩
theorem h_law_pairs_5 : Nm (defScope s_law_pairs) "at" := ⟨.inl rfl, by decide, by decide⟩
theorem h_law_pairs_6 : Nm (defScope s_law_pairs) "size" := ⟨.inl rfl, by decide, by decide⟩
theorem g_law_pairs__law_cell_at : GlS (defScope s_law_pairs) "_law_cell_at" := rfl
theorem g_law_pairs__law_free_pairs : GlS (defScope s_law_pairs) "_law_free_pairs" := rfl
theorem g_law_pairs__law_mix : GlS (defScope s_law_pairs) "_law_mix" := rfl
theorem g_law_pairs__law_wind : GlS (defScope s_law_pairs) "_law_wind" := rfl
theorem g_law_pairs_int : GlS (defScope s_law_pairs) "int" := rfl
theorem g_law_pairs_len : GlS (defScope s_law_pairs) "len" := rfl
theorem ok_law_pairs {P : Program} {w : World} {K : PySem.W.Frag} {mg : Str -> Option Value} {base : Heap} {f : Addr} {fd : FuncData} {cNoShares : Addr} (T : Txt K mg cNoShares) (F : Fun K "_law_pairs" "_law_pairs" s_law_pairs f fd) (c__law_cell_at : Cal P w K mg base (CXe P w) 1 "_law_cell_at" ["script", "k"] (spP K mg f_law_cell_at_d411b)) (c__law_mix : Cal P w K mg base (CXe P w) 1 "_law_mix" ["cell", "k"] (spP K mg f_law_mix_a2b94)) (c__law_wind : Cal P w K mg base (CXe P w) 3 "_law_wind" ["cells", "most"] (spP K mg f_law_wind_28f7f)) (c__law_far_off : Cal P w K mg base (CXe P w) 1 "_law_far_off" ["wind"] (spP K mg f_law_far_off_b901c)) (c__law_free_pairs : Cal P w K mg base (CXe P w) 2 "_law_free_pairs" ["cells", "far"] (spP K mg f_law_free_pairs_d0d6d)) : FnOk P w K mg base (CXe P w) 4 f fd ["script"] (spP K mg f_law_pairs_3ea81) := by
 refine fnN F sc_law_pairs rfl rfl (fun cdv A outer s H E hr => ?_)
 have hu := hr.units
 exact (qz_cons (qz_asg (ag 1 sc_law_pairs.nd h_law_pairs_1 (qx_fn c__law_cell_at (hr.mono (by decide)) passE0 (qxa_cons (qx_v (vg 0 h_law_pairs_0)) (qxa_cons qx_int qxa_nil)) (glg g_law_pairs__law_cell_at) d__law_cell_at)))
   (qz_cons (qz_asg (ag 2 sc_law_pairs.nd h_law_pairs_2 (qx_bin oa_add lk2 (qx_sl (qx_v (vg 0 h_law_pairs_0)) (qp_some qx_int) qp_none) (qx_bin oa_mulL lk2 (QF.qx (qf_lst (qxa_cons qx_int qxa_nil))) (qx_cty ct_int lkN (glg g_law_pairs_int) T.n_int b_int (qxa_cons (qx_cmp (oc_lt hu) lk2 (qx_cb cb_len lkN (glg g_law_pairs_len) T.n_len b_len (qxa_cons (qx_v (vg 0 h_law_pairs_0)) qxa_nil) m_len d_len) qx_int (nomark _)) qxa_nil) m_int d_int)))))
   (qz_cons (qz_if (qt_cmp (oc_eq hu) lk2 (qx_bin oa_mod lk2 (qx_v (vg 1 h_law_pairs_1)) qx_int) qx_int (nomark _)) (qz_one (qz_ret (qx_fn c__law_free_pairs (hr.mono (by decide)) passE0 (qxa_cons (qx_v (vg 2 h_law_pairs_2)) (qxa_cons (qx_ix (QF.qx (qf_lst (qxa_cons qx_int (qxa_cons (qx_bin oa_pow lk2 qx_int qx_int) (qxa_cons (qx_bin oa_pow lk2 qx_int qx_int) qxa_nil))))) (qx_bin oa_mod lk2 (qx_bin oa_fdiv lk2 (qx_v (vg 1 h_law_pairs_1)) qx_int) qx_int) (fun _ _ => rfl)) qxa_nil)) (glg g_law_pairs__law_free_pairs) d__law_free_pairs))) qz_nil)
   (qz_cons (qz_asg (ag 3 sc_law_pairs.nd h_law_pairs_3 (qx_ix (QF.qx (qf_lst (qxa_cons qx_int (qxa_cons qx_int (qxa_cons qx_int (qxa_cons qx_int (qxa_cons qx_int (qxa_cons (qx_bin oa_pow lk2 qx_int qx_int) qxa_nil)))))))) (qx_bin oa_mod lk2 (qx_fn c__law_mix (hr.mono (by decide)) passE0 (qxa_cons (qx_v (vg 1 h_law_pairs_1)) (qxa_cons qx_int qxa_nil)) (glg g_law_pairs__law_mix) d__law_mix) qx_int) (fun _ _ => rfl))))
   (qz_cons (qz_own (ag 4 sc_law_pairs.nd h_law_pairs_4 (qf_lst qxa_nil)))
   (qz_cons (qz_asg (ag 5 sc_law_pairs.nd h_law_pairs_5 qx_int))
   (qz_cons (qz_while PassesOwn.never (qt_cmp (oc_lt hu) lk2 (qx_v (vg 5 h_law_pairs_5)) (qx_cb cb_len lkN (glg g_law_pairs_len) T.n_len b_len (qxa_cons (qx_v (vg 2 h_law_pairs_2)) qxa_nil) m_len d_len) (nomark _)) (qz_cons (qz_asg (ag 6 sc_law_pairs.nd h_law_pairs_6 (qx_bin oa_add lk2 qx_int (qx_bin oa_mod lk2 (qx_fn c__law_mix (hr.mono (by decide)) passE0 (qxa_cons (qx_ix (qx_v (vg 2 h_law_pairs_2)) (qx_v (vg 5 h_law_pairs_5)) (fun _ _ => rfl)) (qxa_cons qx_int qxa_nil)) (glg g_law_pairs__law_mix) d__law_mix) (qx_ix (QF.qx (qf_lst (qxa_cons qx_int (qxa_cons qx_int (qxa_cons qx_int (qxa_cons qx_int qxa_nil)))))) (qx_bin oa_mod lk2 (qx_fn c__law_mix (hr.mono (by decide)) passE0 (qxa_cons (qx_ix (qx_v (vg 2 h_law_pairs_2)) (qx_v (vg 5 h_law_pairs_5)) (fun _ _ => rfl)) (qxa_cons qx_int qxa_nil)) (glg g_law_pairs__law_mix) d__law_mix) qx_int) (fun _ _ => rfl))))))
   (qz_cons (qz_app (vg 4 h_law_pairs_4) (qxa_cons (qx_tup (qxa_cons (qx_fn c__law_wind (hr.mono (by decide)) passE0 (qxa_cons (qx_sl (qx_v (vg 2 h_law_pairs_2)) (qp_some (qx_v (vg 5 h_law_pairs_5))) (qp_some (qx_bin oa_add lk2 (qx_v (vg 5 h_law_pairs_5)) (qx_v (vg 6 h_law_pairs_6))))) (qxa_cons (qx_v (vg 3 h_law_pairs_3)) qxa_nil)) (glg g_law_pairs__law_wind) d__law_wind) (qxa_cons (qx_ix (qx_v (vg 2 h_law_pairs_2)) (qx_v (vg 5 h_law_pairs_5)) (fun _ _ => rfl)) qxa_nil))) qxa_nil))
   (qz_one (qz_asg (ag 5 sc_law_pairs.nd h_law_pairs_5 (qx_bin oa_add lk2 (qx_v (vg 5 h_law_pairs_5)) (qx_v (vg 6 h_law_pairs_6)))))))))
   (qz_cons (qz_if (qt_cmp (oc_eq hu) lk2 (qx_bin oa_mod lk2 (qx_fn c__law_mix (hr.mono (by decide)) passE0 (qxa_cons (qx_ix (qx_v (vg 2 h_law_pairs_2)) qx_int (fun _ _ => rfl)) (qxa_cons qx_int qxa_nil)) (glg g_law_pairs__law_mix) d__law_mix) qx_int) qx_int (nomark _)) (qz_one (qz_own (ag 4 sc_law_pairs.nd h_law_pairs_4 (qf_addL (QF.qx (qf_lst (qxa_cons (qx_tup (qxa_cons (qx_fn c__law_wind (hr.mono (by decide)) passE0 (qxa_cons (qx_v (vg 2 h_law_pairs_2)) (qxa_cons (qx_v (vg 3 h_law_pairs_3)) qxa_nil)) (glg g_law_pairs__law_wind) d__law_wind) (qxa_cons (qx_bin oa_add lk2 (qx_ix (qx_v (vg 2 h_law_pairs_2)) qx_int (fun _ _ => rfl)) qx_int) qxa_nil))) qxa_nil))) (qx_v (vg 4 h_law_pairs_4)))))) qz_nil)
   (qz_cons (qz_if (qt_cmp (oc_eq hu) lk2 (qx_bin oa_mod lk2 (qx_fn c__law_mix (hr.mono (by decide)) passE0 (qxa_cons (qx_ix (qx_v (vg 2 h_law_pairs_2)) qx_int (fun _ _ => rfl)) (qxa_cons qx_int qxa_nil)) (glg g_law_pairs__law_mix) d__law_mix) qx_int) qx_int (nomark _)) (qz_one (qz_own (qs_comp (iy := 4) (tg := (.nm 0)) (ct := none) sc_law_pairs.nd rfl rfl rfl (qi_x (qx_v (vg 4 h_law_pairs_4))) rfl (capOk.ok (N' := ["pair"]) (xn := ["script", "head", "cells", "most", "pairs", "at", "size"]) (nt := 1) (js := []) (osc := defScope s_law_pairs) rfl rfl (by decide +kernel)) rfl (fun C s2 H2 fp => (qg_nmx (i := 0) (show List.Nodup (["pair"] : List Str) from by decide) rfl rfl)) trivial (fun C s2 H2 fp => (qx_tup (qxa_cons (qx_fn c__law_far_off (hr.mono (by decide)) passE0 (qxa_cons (qx_ix (qx_v (qv 0)) qx_int (fun _ _ => rfl)) qxa_nil) (by rfl) d__law_far_off) (qxa_cons (qx_ix (qx_v (qv 0)) qx_int (fun _ _ => rfl)) qxa_nil))))))) qz_nil)
   (qz_one (qz_ret (qx_v (vg 4 h_law_pairs_4)))))))))))))
abbrev s_law_common : Stmt := top 26
theorem sc_law_common : FnScope ["one", "other"] ["one", "other"] (defScope s_law_common) := ⟨rfl, rfl, rfl, by decide +kernel, rfl, by decide +kernel, by decide +kernel⟩
theorem h_law_common_0 : Nm (defScope s_law_common) "one" := ⟨.inl rfl, by decide, by decide⟩
theorem h_law_common_1 : Nm (defScope s_law_common) "other" := ⟨.inl rfl, by decide, by decide⟩
theorem ok_law_common {P : Program} {w : World} {K : PySem.W.Frag} {mg : Str -> Option Value} {base : Heap} {f : Addr} {fd : FuncData} {cNoShares : Addr} (T : Txt K mg cNoShares) (F : Fun K "_law_common" "_law_common" s_law_common f fd) : FnOk P w K mg base (CXe P w) 1 f fd ["one", "other"] (spP K mg f_law_common_d1171) := by
 refine fnN F sc_law_common rfl rfl (fun cdv A outer s H E hr => ?_)
 have hu := hr.units
 exact (qz_cons (qz_while PassesOwn.never (qt_cmp (oc_ne hu) lk2 (qx_v (vg 1 h_law_common_1)) qx_int (nomark _)) (qz_one (qz_par2 (i := 0) (j := 1) rfl sc_law_common.nd rfl rfl (by decide) rfl rfl (qxa_cons (qx_v (vg 1 h_law_common_1)) (qxa_cons (qx_bin oa_mod lk2 (qx_v (vg 0 h_law_common_0)) (qx_v (vg 1 h_law_common_1))) qxa_nil)) rfl)))
   (qz_one (qz_ret (qx_v (vg 0 h_law_common_0)))))
abbrev s_law_lowest : Stmt := top 27
theorem sc_law_lowest : FnScope ["top", "bottom", "part"] ["top", "bottom"] (defScope s_law_lowest) := ⟨rfl, rfl, rfl, by decide +kernel, rfl, by decide +kernel, by decide +kernel⟩
theorem h_law_lowest_0 : Nm (defScope s_law_lowest) "top" := ⟨.inl rfl, by decide, by decide⟩
theorem h_law_lowest_1 : Nm (defScope s_law_lowest) "bottom" := ⟨.inl rfl, by decide, by decide⟩
theorem h_law_lowest_2 : Nm (defScope s_law_lowest) "part" := ⟨.inl rfl, by decide, by decide⟩
theorem g_law_lowest__law_common : GlS (defScope s_law_lowest) "_law_common" := rfl
theorem g_law_lowest_abs : GlS (defScope s_law_lowest) "abs" := rfl
theorem ok_law_lowest {P : Program} {w : World} {K : PySem.W.Frag} {mg : Str -> Option Value} {base : Heap} {f : Addr} {fd : FuncData} {cNoShares : Addr} (T : Txt K mg cNoShares) (F : Fun K "_law_lowest" "_law_lowest" s_law_lowest f fd) (c__law_common : Cal P w K mg base (CXe P w) 1 "_law_common" ["one", "other"] (spP K mg f_law_common_d1171)) : FnOk P w K mg base (CXe P w) 2 f fd ["top", "bottom"] (spP K mg f_law_lowest_7d340) := by
 refine fnN F sc_law_lowest rfl rfl (fun cdv A outer s H E hr => ?_)
 have hu := hr.units
 exact (qz_cons (qz_asg (ag 2 sc_law_lowest.nd h_law_lowest_2 (qx_fn c__law_common (hr.mono (by decide)) passE0 (qxa_cons (qx_cb cb_abs lkN (glg g_law_lowest_abs) T.n_abs b_abs (qxa_cons (qx_v (vg 0 h_law_lowest_0)) qxa_nil) m_abs d_abs) (qxa_cons (qx_v (vg 1 h_law_lowest_1)) qxa_nil)) (glg g_law_lowest__law_common) d__law_common)))
   (qz_one (qz_ret (qx_tup (qxa_cons (qx_bin oa_fdiv lk2 (qx_v (vg 0 h_law_lowest_0)) (qx_v (vg 2 h_law_lowest_2))) (qxa_cons (qx_bin oa_fdiv lk2 (qx_v (vg 1 h_law_lowest_1)) (qx_v (vg 2 h_law_lowest_2))) qxa_nil))))))
abbrev s_law_reduced : Stmt := top 28
theorem sc_law_reduced : FnScope ["east", "north", "bottom", "part"] ["east", "north", "bottom"] (defScope s_law_reduced) := ⟨rfl, rfl, rfl, by decide +kernel, rfl, by decide +kernel, by decide +kernel⟩
theorem h_law_reduced_0 : Nm (defScope s_law_reduced) "east" := ⟨.inl rfl, by decide, by decide⟩
theorem h_law_reduced_1 : Nm (defScope s_law_reduced) "north" := ⟨.inl rfl, by decide, by decide⟩
theorem h_law_reduced_2 : Nm (defScope s_law_reduced) "bottom" := ⟨.inl rfl, by decide, by decide⟩
theorem h_law_reduced_3 : Nm (defScope s_law_reduced) "part" := ⟨.inl rfl, by decide, by decide⟩
theorem g_law_reduced__law_common : GlS (defScope s_law_reduced) "_law_common" := rfl
theorem g_law_reduced_abs : GlS (defScope s_law_reduced) "abs" := rfl
theorem ok_law_reduced {P : Program} {w : World} {K : PySem.W.Frag} {mg : Str -> Option Value} {base : Heap} {f : Addr} {fd : FuncData} {cNoShares : Addr} (T : Txt K mg cNoShares) (F : Fun K "_law_reduced" "_law_reduced" s_law_reduced f fd) (c__law_common : Cal P w K mg base (CXe P w) 1 "_law_common" ["one", "other"] (spP K mg f_law_common_d1171)) : FnOk P w K mg base (CXe P w) 2 f fd ["east", "north", "bottom"] (spP K mg f_law_reduced_fa2e6) := by
 refine fnN F sc_law_reduced rfl rfl (fun cdv A outer s H E hr => ?_)
 have hu := hr.units
 exact (qz_cons (qz_asg (ag 3 sc_law_reduced.nd h_law_reduced_3 (qx_fn c__law_common (hr.mono (by decide)) passE0 (qxa_cons (qx_fn c__law_common (hr.mono (by decide)) passE0 (qxa_cons (qx_cb cb_abs lkN (glg g_law_reduced_abs) T.n_abs b_abs (qxa_cons (qx_v (vg 0 h_law_reduced_0)) qxa_nil) m_abs d_abs) (qxa_cons (qx_cb cb_abs lkN (glg g_law_reduced_abs) T.n_abs b_abs (qxa_cons (qx_v (vg 1 h_law_reduced_1)) qxa_nil) m_abs d_abs) qxa_nil)) (glg g_law_reduced__law_common) d__law_common) (qxa_cons (qx_v (vg 2 h_law_reduced_2)) qxa_nil)) (glg g_law_reduced__law_common) d__law_common)))
   (qz_one (qz_ret (qx_tup (qxa_cons (qx_bin oa_fdiv lk2 (qx_v (vg 0 h_law_reduced_0)) (qx_v (vg 3 h_law_reduced_3))) (qxa_cons (qx_bin oa_fdiv lk2 (qx_v (vg 1 h_law_reduced_1)) (qx_v (vg 3 h_law_reduced_3))) (qxa_cons (qx_bin oa_fdiv lk2 (qx_v (vg 2 h_law_reduced_2)) (qx_v (vg 3 h_law_reduced_3))) qxa_nil)))))))
abbrev s_law_end : Stmt := top 29
theorem sc_law_end : FnScope ["wind", "shares", "bottom", "heading", "share", "east", "north"] ["wind", "shares"] (defScope s_law_end) := ⟨rfl, rfl, rfl, by decide +kernel, rfl, by decide +kernel, by decide +kernel⟩
theorem h_law_end_1 : Nm (defScope s_law_end) "shares" := ⟨.inl rfl, by decide, by decide⟩
theorem h_law_end_2 : Nm (defScope s_law_end) "bottom" := ⟨.inr rfl, by decide, by decide⟩
theorem h_law_end_3 : Nm (defScope s_law_end) "heading" := ⟨.inl rfl, by decide, by decide⟩
theorem h_law_end_4 : Nm (defScope s_law_end) "share" := ⟨.inl rfl, by decide, by decide⟩
theorem h_law_end_5 : Nm (defScope s_law_end) "east" := ⟨.inl rfl, by decide, by decide⟩
theorem h_law_end_6 : Nm (defScope s_law_end) "north" := ⟨.inl rfl, by decide, by decide⟩
theorem g_law_end__law_reduced : GlS (defScope s_law_end) "_law_reduced" := rfl
theorem g_law_end_sum : GlS (defScope s_law_end) "sum" := rfl
theorem ok_law_end {P : Program} {w : World} {K : PySem.W.Frag} {mg : Str -> Option Value} {base : Heap} {f : Addr} {fd : FuncData} {cNoShares : Addr} (T : Txt K mg cNoShares) (F : Fun K "_law_end" "_law_end" s_law_end f fd) (c__law_reduced : Cal P w K mg base (CXe P w) 2 "_law_reduced" ["east", "north", "bottom"] (spP K mg f_law_reduced_fa2e6)) : FnOk P w K mg base (CXe P w) 3 f fd ["wind", "shares"] (spP K mg f_law_end_c275c) := by
 refine fnN F sc_law_end rfl rfl (fun cdv A outer s H E hr => ?_)
 have hu := hr.units
 exact (qz_cons (qz_asg (ag 2 sc_law_end.nd h_law_end_2 qx_int))
   (qz_cons (qz_for (js := []) (g := (.tp [3, 4])) PassesOwn.never rfl (qi_x (qx_v (vg 1 h_law_end_1))) (qg_tup rfl (qgs_cons (ng 3 sc_law_end.nd h_law_end_3) (qgs_cons (ng 4 sc_law_end.nd h_law_end_4) qgs_nil))) (qz_one (qz_asg (ag 2 sc_law_end.nd h_law_end_2 (qx_bin oa_mul lk2 (qx_v (vg 2 h_law_end_2)) (qx_ix (qx_v (vg 4 h_law_end_4)) qx_int (fun _ _ => rfl)))))))
   (qz_cons (qz_asg (ag 5 sc_law_end.nd h_law_end_5 (qx_cb (cb_sum rfl) lkN (glg g_law_end_sum) T.n_sum b_sum (qxa_cons (QF.qx (qf_comp (tg := (.tp [0, 1])) (ct := none) rfl (qi_x (qx_v (vg 1 h_law_end_1))) rfl (capOk.ok (N' := ["heading", "share", "bottom", "wind"]) (xn := ["wind", "shares", "bottom", "heading", "share", "east", "north"]) (nt := 2) (js := [2, 0]) (osc := defScope s_law_end) rfl rfl (by decide +kernel)) rfl (fun C s2 H2 fp => (qg_tup rfl (qgs_cons (qg_nm (i := 0) (show List.Nodup (["heading", "share", "bottom", "wind"] : List Str) from by decide) rfl rfl) (qgs_cons (qg_nm (i := 1) (show List.Nodup (["heading", "share", "bottom", "wind"] : List Str) from by decide) rfl rfl) qgs_nil)))) trivial (fun C s2 H2 fp => (qx_bin oa_mul lk2 (qx_bin oa_mul lk2 (qx_ix (qx_ix (qx_v (qv 3)) (qx_v (qv 0)) (fun _ _ => rfl)) qx_int (fun _ _ => rfl)) (qx_ix (qx_v (qv 1)) qx_int (fun _ _ => rfl))) (qx_bin oa_fdiv lk2 (qx_v (qv 2)) (qx_ix (qx_v (qv 1)) qx_int (fun _ _ => rfl))))))) qxa_nil) m_sum d_sum)))
   (qz_cons (qz_asg (ag 6 sc_law_end.nd h_law_end_6 (qx_cb (cb_sum rfl) lkN (glg g_law_end_sum) T.n_sum b_sum (qxa_cons (QF.qx (qf_comp (tg := (.tp [0, 1])) (ct := none) rfl (qi_x (qx_v (vg 1 h_law_end_1))) rfl (capOk.ok (N' := ["heading", "share", "bottom", "wind"]) (xn := ["wind", "shares", "bottom", "heading", "share", "east", "north"]) (nt := 2) (js := [2, 0]) (osc := defScope s_law_end) rfl rfl (by decide +kernel)) rfl (fun C s2 H2 fp => (qg_tup rfl (qgs_cons (qg_nm (i := 0) (show List.Nodup (["heading", "share", "bottom", "wind"] : List Str) from by decide) rfl rfl) (qgs_cons (qg_nm (i := 1) (show List.Nodup (["heading", "share", "bottom", "wind"] : List Str) from by decide) rfl rfl) qgs_nil)))) trivial (fun C s2 H2 fp => (qx_bin oa_mul lk2 (qx_bin oa_mul lk2 (qx_ix (qx_ix (qx_v (qv 3)) (qx_v (qv 0)) (fun _ _ => rfl)) qx_int (fun _ _ => rfl)) (qx_ix (qx_v (qv 1)) qx_int (fun _ _ => rfl))) (qx_bin oa_fdiv lk2 (qx_v (qv 2)) (qx_ix (qx_v (qv 1)) qx_int (fun _ _ => rfl))))))) qxa_nil) m_sum d_sum)))
   (qz_one (qz_ret (qx_fn c__law_reduced (hr.mono (by decide)) passE0 (qxa_cons (qx_v (vg 5 h_law_end_5)) (qxa_cons (qx_v (vg 6 h_law_end_6)) (qxa_cons (qx_v (vg 2 h_law_end_2)) qxa_nil))) (glg g_law_end__law_reduced) d__law_reduced)))))))
abbrev s_law_together : Stmt := top 30
theorem sc_law_together : FnScope ["shares", "bottom", "heading", "share"] ["shares"] (defScope s_law_together) := ⟨rfl, rfl, rfl, by decide +kernel, rfl, by decide +kernel, by decide +kernel⟩
theorem h_law_together_0 : Nm (defScope s_law_together) "shares" := ⟨.inl rfl, by decide, by decide⟩
theorem h_law_together_1 : Nm (defScope s_law_together) "bottom" := ⟨.inr rfl, by decide, by decide⟩
theorem h_law_together_2 : Nm (defScope s_law_together) "heading" := ⟨.inl rfl, by decide, by decide⟩
theorem h_law_together_3 : Nm (defScope s_law_together) "share" := ⟨.inl rfl, by decide, by decide⟩
theorem g_law_together__law_lowest : GlS (defScope s_law_together) "_law_lowest" := rfl
theorem g_law_together_sum : GlS (defScope s_law_together) "sum" := rfl
theorem ok_law_together {P : Program} {w : World} {K : PySem.W.Frag} {mg : Str -> Option Value} {base : Heap} {f : Addr} {fd : FuncData} {cNoShares : Addr} (T : Txt K mg cNoShares) (F : Fun K "_law_together" "_law_together" s_law_together f fd) (c__law_lowest : Cal P w K mg base (CXe P w) 2 "_law_lowest" ["top", "bottom"] (spP K mg f_law_lowest_7d340)) : FnOk P w K mg base (CXe P w) 3 f fd ["shares"] (spP K mg f_law_together_9214a) := by
 refine fnN F sc_law_together rfl rfl (fun cdv A outer s H E hr => ?_)
 have hu := hr.units
 exact (qz_cons (qz_asg (ag 1 sc_law_together.nd h_law_together_1 qx_int))
   (qz_cons (qz_for (js := []) (g := (.tp [2, 3])) PassesOwn.never rfl (qi_x (qx_v (vg 0 h_law_together_0))) (qg_tup rfl (qgs_cons (ng 2 sc_law_together.nd h_law_together_2) (qgs_cons (ng 3 sc_law_together.nd h_law_together_3) qgs_nil))) (qz_one (qz_asg (ag 1 sc_law_together.nd h_law_together_1 (qx_bin oa_mul lk2 (qx_v (vg 1 h_law_together_1)) (qx_ix (qx_v (vg 3 h_law_together_3)) qx_int (fun _ _ => rfl)))))))
   (qz_one (qz_ret (qx_fn c__law_lowest (hr.mono (by decide)) passE0 (qxa_cons (qx_cb (cb_sum rfl) lkN (glg g_law_together_sum) T.n_sum b_sum (qxa_cons (QF.qx (qf_comp (tg := (.tp [0, 1])) (ct := none) rfl (qi_x (qx_v (vg 0 h_law_together_0))) rfl (capOk.ok (N' := ["heading", "share", "bottom"]) (xn := ["shares", "bottom", "heading", "share"]) (nt := 2) (js := [1]) (osc := defScope s_law_together) rfl rfl (by decide +kernel)) rfl (fun C s2 H2 fp => (qg_tup rfl (qgs_cons (qg_nm (i := 0) (show List.Nodup (["heading", "share", "bottom"] : List Str) from by decide) rfl rfl) (qgs_cons (qg_nm (i := 1) (show List.Nodup (["heading", "share", "bottom"] : List Str) from by decide) rfl rfl) qgs_nil)))) trivial (fun C s2 H2 fp => (qx_bin oa_mul lk2 (qx_ix (qx_v (qv 1)) qx_int (fun _ _ => rfl)) (qx_bin oa_fdiv lk2 (qx_v (qv 2)) (qx_ix (qx_v (qv 1)) qx_int (fun _ _ => rfl))))))) qxa_nil) m_sum d_sum) (qxa_cons (qx_v (vg 1 h_law_together_1)) qxa_nil)) (glg g_law_together__law_lowest) d__law_lowest)))))
abbrev s_law_any_shares : Stmt := top 31
theorem sc_law_any_shares : FnScope ["wind", "cell", "shares", "rest", "k", "most", "share"] ["wind", "cell"] (defScope s_law_any_shares) := ⟨rfl, rfl, rfl, by decide +kernel, rfl, by decide +kernel, by decide +kernel⟩
theorem h_law_any_shares_0 : Nm (defScope s_law_any_shares) "wind" := ⟨.inl rfl, by decide, by decide⟩
theorem h_law_any_shares_1 : Nm (defScope s_law_any_shares) "cell" := ⟨.inl rfl, by decide, by decide⟩
theorem h_law_any_shares_2 : Nm (defScope s_law_any_shares) "shares" := ⟨.inl rfl, by decide, by decide⟩
theorem h_law_any_shares_3 : Nm (defScope s_law_any_shares) "rest" := ⟨.inl rfl, by decide, by decide⟩
theorem h_law_any_shares_4 : Nm (defScope s_law_any_shares) "k" := ⟨.inl rfl, by decide, by decide⟩
theorem h_law_any_shares_5 : Nm (defScope s_law_any_shares) "most" := ⟨.inl rfl, by decide, by decide⟩
theorem h_law_any_shares_6 : Nm (defScope s_law_any_shares) "share" := ⟨.inl rfl, by decide, by decide⟩
theorem g_law_any_shares__law_lowest : GlS (defScope s_law_any_shares) "_law_lowest" := rfl
theorem g_law_any_shares__law_mix : GlS (defScope s_law_any_shares) "_law_mix" := rfl
theorem g_law_any_shares_len : GlS (defScope s_law_any_shares) "len" := rfl
theorem g_law_any_shares_range : GlS (defScope s_law_any_shares) "range" := rfl
theorem g_law_any_shares_tuple : GlS (defScope s_law_any_shares) "tuple" := rfl
theorem ok_law_any_shares {P : Program} {w : World} {K : PySem.W.Frag} {mg : Str -> Option Value} {base : Heap} {f : Addr} {fd : FuncData} {cNoShares : Addr} (T : Txt K mg cNoShares) (F : Fun K "_law_any_shares" "_law_any_shares" s_law_any_shares f fd) (c__law_mix : Cal P w K mg base (CXe P w) 1 "_law_mix" ["cell", "k"] (spP K mg f_law_mix_a2b94)) (c__law_lowest : Cal P w K mg base (CXe P w) 2 "_law_lowest" ["top", "bottom"] (spP K mg f_law_lowest_7d340)) : FnOk P w K mg base (CXe P w) 3 f fd ["wind", "cell"] (spP K mg f_law_any_shares_ef24c) := by
 refine fnN F sc_law_any_shares rfl rfl (fun cdv A outer s H E hr => ?_)
 have hu := hr.units
 exact (qz_cons (qz_own (ag 2 sc_law_any_shares.nd h_law_any_shares_2 (qf_lst qxa_nil)))
   (qz_cons (qz_asg (ag 3 sc_law_any_shares.nd h_law_any_shares_3 (qx_bin oa_fdiv lk2 (qx_v (vg 1 h_law_any_shares_1)) qx_int)))
   (qz_cons (qz_forr1 (g := (.nm 4)) PassesOwn.never rfl (glg g_law_any_shares_range) T.n_range (qxa_cons (qx_cb cb_len lkN (glg g_law_any_shares_len) T.n_len b_len (qxa_cons (qx_v (vg 0 h_law_any_shares_0)) qxa_nil) m_len d_len) qxa_nil) (ng 4 sc_law_any_shares.nd h_law_any_shares_4) (qz_cons (qz_asg (ag 5 sc_law_any_shares.nd h_law_any_shares_5 (qx_ix (QF.qx (qf_lst (qxa_cons qx_int (qxa_cons qx_int (qxa_cons (qx_bin oa_pow lk2 qx_int qx_int) qxa_nil))))) (qx_bin oa_mod lk2 (qx_fn c__law_mix (hr.mono (by decide)) passE0 (qxa_cons (qx_v (vg 1 h_law_any_shares_1)) (qxa_cons qx_int qxa_nil)) (glg g_law_any_shares__law_mix) d__law_mix) qx_int) (fun _ _ => rfl))))
   (qz_one (qz_if (qt_cmp (oc_gt hu) lk2 (qx_bin oa_mod lk2 (qx_fn c__law_mix (hr.mono (by decide)) passE0 (qxa_cons (qx_v (vg 1 h_law_any_shares_1)) (qxa_cons (qx_bin oa_add lk2 qx_int (qx_v (vg 4 h_law_any_shares_4))) qxa_nil)) (glg g_law_any_shares__law_mix) d__law_mix) qx_int) qx_int (nomark _)) (qz_cons (qz_asg (ag 6 sc_law_any_shares.nd h_law_any_shares_6 (qx_fn c__law_lowest (hr.mono (by decide)) passE0 (qxa_cons (qx_bin oa_add lk2 qx_int (qx_bin oa_mod lk2 (qx_fn c__law_mix (hr.mono (by decide)) passE0 (qxa_cons (qx_v (vg 1 h_law_any_shares_1)) (qxa_cons (qx_bin oa_add lk2 qx_int (qx_v (vg 4 h_law_any_shares_4))) qxa_nil)) (glg g_law_any_shares__law_mix) d__law_mix) (qx_v (vg 5 h_law_any_shares_5)))) (qxa_cons (qx_bin oa_add lk2 qx_int (qx_bin oa_mod lk2 (qx_fn c__law_mix (hr.mono (by decide)) passE0 (qxa_cons (qx_v (vg 1 h_law_any_shares_1)) (qxa_cons (qx_bin oa_add lk2 qx_int (qx_v (vg 4 h_law_any_shares_4))) qxa_nil)) (glg g_law_any_shares__law_mix) d__law_mix) (qx_v (vg 5 h_law_any_shares_5)))) qxa_nil)) (glg g_law_any_shares__law_lowest) d__law_lowest)))
   (qz_cons (qz_if (qt_cmp (oc_eq hu) lk2 (qx_bin oa_mod lk2 (qx_v (vg 1 h_law_any_shares_1)) qx_int) qx_int (nomark _)) (qz_cons (qz_asg (ag 6 sc_law_any_shares.nd h_law_any_shares_6 (qx_fn c__law_lowest (hr.mono (by decide)) passE0 (qxa_cons (qx_bin oa_add lk2 qx_int (qx_bin oa_mod lk2 (qx_v (vg 3 h_law_any_shares_3)) (qx_bin oa_pow lk2 qx_int qx_int))) (qxa_cons (qx_bin oa_add lk2 qx_int (qx_bin oa_mod lk2 (qx_bin oa_fdiv lk2 (qx_v (vg 3 h_law_any_shares_3)) (qx_bin oa_pow lk2 qx_int qx_int)) (qx_bin oa_pow lk2 qx_int qx_int))) qxa_nil)) (glg g_law_any_shares__law_lowest) d__law_lowest)))
   (qz_one (qz_asg (ag 3 sc_law_any_shares.nd h_law_any_shares_3 (qx_bin oa_fdiv lk2 (qx_v (vg 3 h_law_any_shares_3)) (qx_bin oa_pow lk2 qx_int qx_int)))))) qz_nil)
   (qz_one (qz_app (vg 2 h_law_any_shares_2) (qxa_cons (qx_tup (qxa_cons (qx_v (vg 4 h_law_any_shares_4)) (qxa_cons (qx_v (vg 6 h_law_any_shares_6)) qxa_nil))) qxa_nil))))) qz_nil))))
   (qz_one (qz_ret (qx_cty ct_tuple lkN (glg g_law_any_shares_tuple) T.n_tuple b_tuple (qxa_cons (qx_v (vg 2 h_law_any_shares_2)) qxa_nil) m_tuple d_tuple))))))
abbrev s_law : Stmt := top 32
theorem sc_law : FnScope ["script", "wind", "cell", "shares"] ["script"] (defScope s_law) := ⟨rfl, rfl, rfl, by decide +kernel, rfl, by decide +kernel, by decide +kernel⟩
theorem h_law_0 : Nm (defScope s_law) "script" := ⟨.inl rfl, by decide, by decide⟩
theorem h_law_1 : Nm (defScope s_law) "wind" := ⟨.inl rfl, by decide, by decide⟩
theorem h_law_2 : Nm (defScope s_law) "cell" := ⟨.inl rfl, by decide, by decide⟩
theorem h_law_3 : Nm (defScope s_law) "shares" := ⟨.inl rfl, by decide, by decide⟩
theorem g_law__law_any_shares : GlS (defScope s_law) "_law_any_shares" := rfl
theorem g_law__law_end : GlS (defScope s_law) "_law_end" := rfl
theorem g_law__law_pairs : GlS (defScope s_law) "_law_pairs" := rfl
theorem g_law__law_same : GlS (defScope s_law) "_law_same" := rfl
theorem g_law__law_together : GlS (defScope s_law) "_law_together" := rfl
theorem g_law_shares_end : GlS (defScope s_law) "shares_end" := rfl
theorem g_law_shares_sum : GlS (defScope s_law) "shares_sum" := rfl
theorem ok_law {P : Program} {w : World} {K : PySem.W.Frag} {mg : Str -> Option Value} {base : Heap} {f : Addr} {fd : FuncData} {cNoShares : Addr} (T : Txt K mg cNoShares) (F : Fun K "law" "law" s_law f fd) (c_shares_sum : Cal P w K mg base (CXe P w) 3 "shares_sum" ["shares"] (spP K mg f_shares_sum)) (c_shares_end : Cal P w K mg base (CXe P w) 4 "shares_end" ["wind", "shares"] (spP K mg f_shares_end)) (c__law_same : Cal P w K mg base (CXe P w) 4 "_law_same" ["found", "due"] (spP K mg f_law_same_a1d8f)) (c__law_pairs : Cal P w K mg base (CXe P w) 4 "_law_pairs" ["script"] (spP K mg f_law_pairs_3ea81)) (c__law_end : Cal P w K mg base (CXe P w) 3 "_law_end" ["wind", "shares"] (spP K mg f_law_end_c275c)) (c__law_together : Cal P w K mg base (CXe P w) 3 "_law_together" ["shares"] (spP K mg f_law_together_9214a)) (c__law_any_shares : Cal P w K mg base (CXe P w) 3 "_law_any_shares" ["wind", "cell"] (spP K mg f_law_any_shares_ef24c)) : FnOk P w K mg base (CXe P w) 5 f fd ["script"] (spP K mg f_law_592f6) := by
 refine fnE F sc_law rfl rfl (fun cdv A outer s H E hr => ?_)
 have hu := hr.units
 exact (qz_cons (qz_calm (qz_for (js := []) (g := (.tp [1, 2])) PassesOwn.never rfl (qi_x (qx_fn c__law_pairs (hr.mono (by decide)) passE0 (qxa_cons (qx_v (vg 0 h_law_0)) qxa_nil) (glg g_law__law_pairs) d__law_pairs)) (qg_tup rfl (qgs_cons (ng 1 sc_law.nd h_law_1) (qgs_cons (ng 2 sc_law.nd h_law_2) qgs_nil))) (qz_cons (qz_asg (ag 3 sc_law.nd h_law_3 (qx_fn c__law_any_shares (hr.mono (by decide)) passE0 (qxa_cons (qx_v (vg 1 h_law_1)) (qxa_cons (qx_v (vg 2 h_law_2)) qxa_nil)) (glg g_law__law_any_shares) d__law_any_shares)))
   (qz_cons (qz_if (qtx_not (qt_valx (qx_fn c__law_same (hr.mono (by decide)) passE0 (qxa_cons (qx_fn c_shares_end (hr.mono (by decide)) passE0 (qxa_cons (qx_v (vg 1 h_law_1)) (qxa_cons (qx_v (vg 3 h_law_3)) qxa_nil)) (glg g_law_shares_end) d_shares_end) (qxa_cons (qx_fn c__law_end (hr.mono (by decide)) passE0 (qxa_cons (qx_v (vg 1 h_law_1)) (qxa_cons (qx_v (vg 3 h_law_3)) qxa_nil)) (glg g_law__law_end) d__law_end) qxa_nil)) (glg g_law__law_same) d__law_same))) (qz_one (qz_ret qx_bl)) qz_nil)
   (qz_cons (qz_if (qtx_not (qt_valx (qx_fn c__law_same (hr.mono (by decide)) passE0 (qxa_cons (qx_fn c_shares_sum (hr.mono (by decide)) passE0 (qxa_cons (qx_v (vg 3 h_law_3)) qxa_nil) (glg g_law_shares_sum) d_shares_sum) (qxa_cons (qx_fn c__law_together (hr.mono (by decide)) passE0 (qxa_cons (qx_v (vg 3 h_law_3)) qxa_nil) (glg g_law__law_together) d__law_together) qxa_nil)) (glg g_law__law_same) d__law_same))) (qz_one (qz_ret qx_bl)) qz_nil)
   (qz_one (qz_if (qtx_not (qt_valx (qx_fn c__law_same (hr.mono (by decide)) passE0 (qxa_cons (qx_fn c_shares_end (hr.mono (by decide)) passE0 (qxa_cons (qx_v (vg 1 h_law_1)) (qxa_cons (qx_tup qxa_nil) qxa_nil)) (glg g_law_shares_end) d_shares_end) (qxa_cons (qx_tup (qxa_cons qx_int (qxa_cons qx_int (qxa_cons qx_int qxa_nil)))) qxa_nil)) (glg g_law__law_same) d__law_same))) (qz_one (qz_ret qx_bl)) qz_nil)))))))
   (qz_one (qz_ret (qx_fn c__law_same (hr.mono (by decide)) passE (qxa_cons (qx_fn c_shares_sum (hr.mono (by decide)) passE (qxa_cons (qx_tup qxa_nil) qxa_nil) (glg g_law_shares_sum) d_shares_sum) (qxa_cons (qx_tup (qxa_cons qx_int (qxa_cons qx_int qxa_nil))) qxa_nil)) (glg g_law__law_same) d__law_same))))
theorem all_mk {l : PySem.W.OpenLaw} {w : World} {K : PySem.W.Frag} {h : Heap} {mg : Str -> Option Value} {fa f0 f1 f2 f3 f4 f5 f6 f7 f8 f9 f10 f11 f12 f13 f14 f15 f16 f17 f18 f19 f20 f21 f22 f23 f24 f25 : Addr} (X : K.In h) (G : h.Ns mainGlobals mg) (hfa : mg "law" = some (.ref fa))
  {od0 an0 od1 an1 od2 an2 od3 an3 od4 an4 od5 an5 od6 an6 od7 an7 od8 an8 od9 an9 od10 an10 od11 an11 od12 an12 od13 an13 od14 an14 od15 an15 od16 an16 od17 an17 od18 an18 od19 an19 od20 an20 od21 an21 od22 an22 od23 an23 od24 an24 od25 an25 : Option Addr} {sl0 sl1 sl2 sl3 sl4 sl5 sl6 sl7 sl8 sl9 sl10 sl11 sl12 sl13 sl14 sl15 sl16 sl17 sl18 sl19 sl20 sl21 sl22 sl23 sl24 sl25 : Array (Option Value)} {oc0 kV0 dc0 pm0 cd0 ct0 oc1 kV1 dc1 pm1 cd1 ct1 oc2 kV2 dc2 pm2 cd2 ct2 oc3 kV3 dc3 pm3 cd3 ct3 oc4 kV4 dc4 pm4 cd4 ct4 oc5 kV5 dc5 pm5 cd5 ct5 oc6 kV6 dc6 pm6 cd6 ct6 oc7 kV7 dc7 pm7 cd7 ct7 oc8 kV8 dc8 pm8 cd8 ct8 oc9 kV9 dc9 pm9 cd9 ct9 oc10 kV10 dc10 pm10 cd10 ct10 oc11 kV11 dc11 pm11 cd11 ct11 oc12 kV12 dc12 pm12 cd12 ct12 oc13 kV13 dc13 pm13 cd13 ct13 oc14 kV14 dc14 pm14 cd14 ct14 oc15 kV15 dc15 pm15 cd15 ct15 oc16 kV16 dc16 pm16 cd16 ct16 oc17 kV17 dc17 pm17 cd17 ct17 oc18 kV18 dc18 pm18 cd18 ct18 oc19 kV19 dc19 pm19 cd19 ct19 oc20 kV20 dc20 pm20 cd20 ct20 oc21 kV21 dc21 pm21 cd21 ct21 oc22 kV22 dc22 pm22 cd22 ct22 oc23 kV23 dc23 pm23 cd23 ct23 oc24 kV24 dc24 pm24 cd24 ct24 oc25 kV25 dc25 pm25 cd25 ct25 : Value}
  (a0 : PySem.W.nsIn K mainGlobals "common_divisor" = some (some (.ref f0))) (l0 : K.lookup f0 = some ⟨oc0, od0, .func (PySem.W.fnOf "common_divisor" "common_divisor" (defArgs s_common_divisor) (defBody s_common_divisor) (defScope s_common_divisor) .none kV0 dc0 pm0 an0 cd0 ct0), sl0⟩) (c0 : PySem.W.codeIn K cd0 "common_divisor" = true) (k0 : PySem.W.keepIn K (.ref f0) = true)
  (a1 : PySem.W.nsIn K mainGlobals "added" = some (some (.ref f1))) (l1 : K.lookup f1 = some ⟨oc1, od1, .func (PySem.W.fnOf "added" "added" (defArgs s_added) (defBody s_added) (defScope s_added) .none kV1 dc1 pm1 an1 cd1 ct1), sl1⟩) (c1 : PySem.W.codeIn K cd1 "added" = true) (k1 : PySem.W.keepIn K (.ref f1) = true)
  (a2 : PySem.W.nsIn K mainGlobals "lowest_place" = some (some (.ref f2))) (l2 : K.lookup f2 = some ⟨oc2, od2, .func (PySem.W.fnOf "lowest_place" "lowest_place" (defArgs s_lowest_place) (defBody s_lowest_place) (defScope s_lowest_place) .none kV2 dc2 pm2 an2 cd2 ct2), sl2⟩) (c2 : PySem.W.codeIn K cd2 "lowest_place" = true) (k2 : PySem.W.keepIn K (.ref f2) = true)
  (a3 : PySem.W.nsIn K mainGlobals "place_added" = some (some (.ref f3))) (l3 : K.lookup f3 = some ⟨oc3, od3, .func (PySem.W.fnOf "place_added" "place_added" (defArgs s_place_added) (defBody s_place_added) (defScope s_place_added) .none kV3 dc3 pm3 an3 cd3 ct3), sl3⟩) (c3 : PySem.W.codeIn K cd3 "place_added" = true) (k3 : PySem.W.keepIn K (.ref f3) = true)
  (a4 : PySem.W.nsIn K mainGlobals "place_times" = some (some (.ref f4))) (l4 : K.lookup f4 = some ⟨oc4, od4, .func (PySem.W.fnOf "place_times" "place_times" (defArgs s_place_times) (defBody s_place_times) (defScope s_place_times) .none kV4 dc4 pm4 an4 cd4 ct4), sl4⟩) (c4 : PySem.W.codeIn K cd4 "place_times" = true) (k4 : PySem.W.keepIn K (.ref f4) = true)
  (a5 : PySem.W.nsIn K mainGlobals "is_share" = some (some (.ref f5))) (l5 : K.lookup f5 = some ⟨oc5, od5, .func (PySem.W.fnOf "is_share" "is_share" (defArgs s_is_share) (defBody s_is_share) (defScope s_is_share) .none kV5 dc5 pm5 an5 cd5 ct5), sl5⟩) (c5 : PySem.W.codeIn K cd5 "is_share" = true) (k5 : PySem.W.keepIn K (.ref f5) = true)
  (a6 : PySem.W.nsIn K mainGlobals "are_shares" = some (some (.ref f6))) (l6 : K.lookup f6 = some ⟨oc6, od6, .func (PySem.W.fnOf "are_shares" "are_shares" (defArgs s_are_shares) (defBody s_are_shares) (defScope s_are_shares) .none kV6 dc6 pm6 an6 cd6 ct6), sl6⟩) (c6 : PySem.W.codeIn K cd6 "are_shares" = true) (k6 : PySem.W.keepIn K (.ref f6) = true)
  (a7 : PySem.W.nsIn K mainGlobals "shares_sum" = some (some (.ref f7))) (l7 : K.lookup f7 = some ⟨oc7, od7, .func (PySem.W.fnOf "shares_sum" "shares_sum" (defArgs s_shares_sum) (defBody s_shares_sum) (defScope s_shares_sum) .none kV7 dc7 pm7 an7 cd7 ct7), sl7⟩) (c7 : PySem.W.codeIn K cd7 "shares_sum" = true) (k7 : PySem.W.keepIn K (.ref f7) = true)
  (a8 : PySem.W.nsIn K mainGlobals "shares_end" = some (some (.ref f8))) (l8 : K.lookup f8 = some ⟨oc8, od8, .func (PySem.W.fnOf "shares_end" "shares_end" (defArgs s_shares_end) (defBody s_shares_end) (defScope s_shares_end) .none kV8 dc8 pm8 an8 cd8 ct8), sl8⟩) (c8 : PySem.W.codeIn K cd8 "shares_end" = true) (k8 : PySem.W.keepIn K (.ref f8) = true)
  (a9 : PySem.W.nsIn K mainGlobals "_law_cell_at" = some (some (.ref f9))) (l9 : K.lookup f9 = some ⟨oc9, od9, .func (PySem.W.fnOf "_law_cell_at" "_law_cell_at" (defArgs s_law_cell_at) (defBody s_law_cell_at) (defScope s_law_cell_at) .none kV9 dc9 pm9 an9 cd9 ct9), sl9⟩) (c9 : PySem.W.codeIn K cd9 "_law_cell_at" = true) (k9 : PySem.W.keepIn K (.ref f9) = true)
  (a10 : PySem.W.nsIn K mainGlobals "_law_mix" = some (some (.ref f10))) (l10 : K.lookup f10 = some ⟨oc10, od10, .func (PySem.W.fnOf "_law_mix" "_law_mix" (defArgs s_law_mix) (defBody s_law_mix) (defScope s_law_mix) .none kV10 dc10 pm10 an10 cd10 ct10), sl10⟩) (c10 : PySem.W.codeIn K cd10 "_law_mix" = true) (k10 : PySem.W.keepIn K (.ref f10) = true)
  (a11 : PySem.W.nsIn K mainGlobals "_law_same" = some (some (.ref f11))) (l11 : K.lookup f11 = some ⟨oc11, od11, .func (PySem.W.fnOf "_law_same" "_law_same" (defArgs s_law_same) (defBody s_law_same) (defScope s_law_same) .none kV11 dc11 pm11 an11 cd11 ct11), sl11⟩) (c11 : PySem.W.codeIn K cd11 "_law_same" = true) (k11 : PySem.W.keepIn K (.ref f11) = true)
  (a12 : PySem.W.nsIn K mainGlobals "_law_vector" = some (some (.ref f12))) (l12 : K.lookup f12 = some ⟨oc12, od12, .func (PySem.W.fnOf "_law_vector" "_law_vector" (defArgs s_law_vector) (defBody s_law_vector) (defScope s_law_vector) .none kV12 dc12 pm12 an12 cd12 ct12), sl12⟩) (c12 : PySem.W.codeIn K cd12 "_law_vector" = true) (k12 : PySem.W.keepIn K (.ref f12) = true)
  (a13 : PySem.W.nsIn K mainGlobals "_law_digits" = some (some (.ref f13))) (l13 : K.lookup f13 = some ⟨oc13, od13, .func (PySem.W.fnOf "_law_digits" "_law_digits" (defArgs s_law_digits) (defBody s_law_digits) (defScope s_law_digits) .none kV13 dc13 pm13 an13 cd13 ct13), sl13⟩) (c13 : PySem.W.codeIn K cd13 "_law_digits" = true) (k13 : PySem.W.keepIn K (.ref f13) = true)
  (a14 : PySem.W.nsIn K mainGlobals "_law_within" = some (some (.ref f14))) (l14 : K.lookup f14 = some ⟨oc14, od14, .func (PySem.W.fnOf "_law_within" "_law_within" (defArgs s_law_within) (defBody s_law_within) (defScope s_law_within) .none kV14 dc14 pm14 an14 cd14 ct14), sl14⟩) (c14 : PySem.W.codeIn K cd14 "_law_within" = true) (k14 : PySem.W.keepIn K (.ref f14) = true)
  (a15 : PySem.W.nsIn K mainGlobals "_law_wind" = some (some (.ref f15))) (l15 : K.lookup f15 = some ⟨oc15, od15, .func (PySem.W.fnOf "_law_wind" "_law_wind" (defArgs s_law_wind) (defBody s_law_wind) (defScope s_law_wind) .none kV15 dc15 pm15 an15 cd15 ct15), sl15⟩) (c15 : PySem.W.codeIn K cd15 "_law_wind" = true) (k15 : PySem.W.keepIn K (.ref f15) = true)
  (a16 : PySem.W.nsIn K mainGlobals "_law_far_off" = some (some (.ref f16))) (l16 : K.lookup f16 = some ⟨oc16, od16, .func (PySem.W.fnOf "_law_far_off" "_law_far_off" (defArgs s_law_far_off) (defBody s_law_far_off) (defScope s_law_far_off) .none kV16 dc16 pm16 an16 cd16 ct16), sl16⟩) (c16 : PySem.W.codeIn K cd16 "_law_far_off" = true) (k16 : PySem.W.keepIn K (.ref f16) = true)
  (a17 : PySem.W.nsIn K mainGlobals "_law_free_pairs" = some (some (.ref f17))) (l17 : K.lookup f17 = some ⟨oc17, od17, .func (PySem.W.fnOf "_law_free_pairs" "_law_free_pairs" (defArgs s_law_free_pairs) (defBody s_law_free_pairs) (defScope s_law_free_pairs) .none kV17 dc17 pm17 an17 cd17 ct17), sl17⟩) (c17 : PySem.W.codeIn K cd17 "_law_free_pairs" = true) (k17 : PySem.W.keepIn K (.ref f17) = true)
  (a18 : PySem.W.nsIn K mainGlobals "_law_pairs" = some (some (.ref f18))) (l18 : K.lookup f18 = some ⟨oc18, od18, .func (PySem.W.fnOf "_law_pairs" "_law_pairs" (defArgs s_law_pairs) (defBody s_law_pairs) (defScope s_law_pairs) .none kV18 dc18 pm18 an18 cd18 ct18), sl18⟩) (c18 : PySem.W.codeIn K cd18 "_law_pairs" = true) (k18 : PySem.W.keepIn K (.ref f18) = true)
  (a19 : PySem.W.nsIn K mainGlobals "_law_common" = some (some (.ref f19))) (l19 : K.lookup f19 = some ⟨oc19, od19, .func (PySem.W.fnOf "_law_common" "_law_common" (defArgs s_law_common) (defBody s_law_common) (defScope s_law_common) .none kV19 dc19 pm19 an19 cd19 ct19), sl19⟩) (c19 : PySem.W.codeIn K cd19 "_law_common" = true) (k19 : PySem.W.keepIn K (.ref f19) = true)
  (a20 : PySem.W.nsIn K mainGlobals "_law_lowest" = some (some (.ref f20))) (l20 : K.lookup f20 = some ⟨oc20, od20, .func (PySem.W.fnOf "_law_lowest" "_law_lowest" (defArgs s_law_lowest) (defBody s_law_lowest) (defScope s_law_lowest) .none kV20 dc20 pm20 an20 cd20 ct20), sl20⟩) (c20 : PySem.W.codeIn K cd20 "_law_lowest" = true) (k20 : PySem.W.keepIn K (.ref f20) = true)
  (a21 : PySem.W.nsIn K mainGlobals "_law_reduced" = some (some (.ref f21))) (l21 : K.lookup f21 = some ⟨oc21, od21, .func (PySem.W.fnOf "_law_reduced" "_law_reduced" (defArgs s_law_reduced) (defBody s_law_reduced) (defScope s_law_reduced) .none kV21 dc21 pm21 an21 cd21 ct21), sl21⟩) (c21 : PySem.W.codeIn K cd21 "_law_reduced" = true) (k21 : PySem.W.keepIn K (.ref f21) = true)
  (a22 : PySem.W.nsIn K mainGlobals "_law_end" = some (some (.ref f22))) (l22 : K.lookup f22 = some ⟨oc22, od22, .func (PySem.W.fnOf "_law_end" "_law_end" (defArgs s_law_end) (defBody s_law_end) (defScope s_law_end) .none kV22 dc22 pm22 an22 cd22 ct22), sl22⟩) (c22 : PySem.W.codeIn K cd22 "_law_end" = true) (k22 : PySem.W.keepIn K (.ref f22) = true)
  (a23 : PySem.W.nsIn K mainGlobals "_law_together" = some (some (.ref f23))) (l23 : K.lookup f23 = some ⟨oc23, od23, .func (PySem.W.fnOf "_law_together" "_law_together" (defArgs s_law_together) (defBody s_law_together) (defScope s_law_together) .none kV23 dc23 pm23 an23 cd23 ct23), sl23⟩) (c23 : PySem.W.codeIn K cd23 "_law_together" = true) (k23 : PySem.W.keepIn K (.ref f23) = true)
  (a24 : PySem.W.nsIn K mainGlobals "_law_any_shares" = some (some (.ref f24))) (l24 : K.lookup f24 = some ⟨oc24, od24, .func (PySem.W.fnOf "_law_any_shares" "_law_any_shares" (defArgs s_law_any_shares) (defBody s_law_any_shares) (defScope s_law_any_shares) .none kV24 dc24 pm24 an24 cd24 ct24), sl24⟩) (c24 : PySem.W.codeIn K cd24 "_law_any_shares" = true) (k24 : PySem.W.keepIn K (.ref f24) = true)
  (a25 : PySem.W.nsIn K mainGlobals "law" = some (some (.ref f25))) (l25 : K.lookup f25 = some ⟨oc25, od25, .func (PySem.W.fnOf "law" "law" (defArgs s_law) (defBody s_law) (defScope s_law) .none kV25 dc25 pm25 an25 cd25 ct25), sl25⟩) (c25 : PySem.W.codeIn K cd25 "law" = true) (k25 : PySem.W.keepIn K (.ref f25) = true)
  (z_abs : PySem.W.nsIn K mainGlobals "abs" = some none)
  (z_bool : PySem.W.nsIn K mainGlobals "bool" = some none)
  (z_int : PySem.W.nsIn K mainGlobals "int" = some none)
  (z_isinstance : PySem.W.nsIn K mainGlobals "isinstance" = some none)
  (z_len : PySem.W.nsIn K mainGlobals "len" = some none)
  (z_max : PySem.W.nsIn K mainGlobals "max" = some none)
  (z_min : PySem.W.nsIn K mainGlobals "min" = some none)
  (z_range : PySem.W.nsIn K mainGlobals "range" = some none)
  (z_str : PySem.W.nsIn K mainGlobals "str" = some none)
  (z_sum : PySem.W.nsIn K mainGlobals "sum" = some none)
  (z_tuple : PySem.W.nsIn K mainGlobals "tuple" = some none)
  {cNoShares : Addr} (aa_NoShares : PySem.W.nsIn K mainGlobals "NoShares" = some (some (.ref cNoShares))) (xx_NoShares : PySem.W.excIn K cNoShares [.type "ValueError", .type "Exception", .type "BaseException", .type "object"] "ValueError.__new__" = true)
  : ∃ fd : FuncData, (∀ (s : Shared) (v : Value), BindsTo s fd ⟨[v], []⟩ [("script", v)]) /\ ∀ base : Heap, K.In base -> base.Ns mainGlobals mg -> FnOk l.prog w K mg base (CXe l.prog w) 5 fa fd ["script"] (spL K) := by
 have e := hfa.symm.trans (PySem.W.mg_of X G a25)
 cases e
 have T : Txt K mg cNoShares := ⟨trivial, PySem.W.mg_none_of X G z_abs, PySem.W.mg_none_of X G z_bool, PySem.W.mg_none_of X G z_int, PySem.W.mg_none_of X G z_isinstance, PySem.W.mg_none_of X G z_len, PySem.W.mg_none_of X G z_max, PySem.W.mg_none_of X G z_min, PySem.W.mg_none_of X G z_range, PySem.W.mg_none_of X G z_str, PySem.W.mg_none_of X G z_sum, PySem.W.mg_none_of X G z_tuple, ⟨PySem.W.mg_of X G aa_NoShares, _, _, _, PySem.F.excBase_ValueError, xx_NoShares⟩⟩
 refine ⟨PySem.W.fnOf "law" "law" (defArgs s_law) (defBody s_law) (defScope s_law) .none kV25 dc25 pm25 an25 cd25 ct25, fun s v => .of_eq rfl, fun base kb nb => ?_⟩
 have F0 := fun_mk (st := s_common_divisor) l0 c0 k0
 have b0 := F0.binds (ps := ["one", "other"]) fun _ _ _ _ _ _ us hl => match us, hl with | [_, _], _ => rfl
 have C_common_divisor : Cal l.prog w K mg base (CXe l.prog w) 1 "common_divisor" ["one", "other"] (spP K mg f_common_divisor) := ⟨_, _, ok_common_divisor T F0 , PySem.W.mg_of X G a0, k0, b0⟩
 have F1 := fun_mk (st := s_added) l1 c1 k1
 have b1 := F1.binds (ps := ["one", "other"]) fun _ _ _ _ _ _ us hl => match us, hl with | [_, _], _ => rfl
 have C_added : Cal l.prog w K mg base (CXe l.prog w) 2 "added" ["one", "other"] (spP K mg f_added) := ⟨_, _, ok_added T F1 C_common_divisor, PySem.W.mg_of X G a1, k1, b1⟩
 have F2 := fun_mk (st := s_lowest_place) l2 c2 k2
 have b2 := F2.binds (ps := ["x", "y", "bottom"]) fun _ _ _ _ _ _ us hl => match us, hl with | [_, _, _], _ => rfl
 have C_lowest_place : Cal l.prog w K mg base (CXe l.prog w) 2 "lowest_place" ["x", "y", "bottom"] (spP K mg f_lowest_place) := ⟨_, _, ok_lowest_place T F2 C_common_divisor, PySem.W.mg_of X G a2, k2, b2⟩
 have F3 := fun_mk (st := s_place_added) l3 c3 k3
 have b3 := F3.binds (ps := ["one", "other"]) fun _ _ _ _ _ _ us hl => match us, hl with | [_, _], _ => rfl
 have C_place_added : Cal l.prog w K mg base (CXe l.prog w) 2 "place_added" ["one", "other"] (spP K mg f_place_added) := ⟨_, _, ok_place_added T F3 C_common_divisor, PySem.W.mg_of X G a3, k3, b3⟩
 have F4 := fun_mk (st := s_place_times) l4 c4 k4
 have b4 := F4.binds (ps := ["place", "fraction"]) fun _ _ _ _ _ _ us hl => match us, hl with | [_, _], _ => rfl
 have C_place_times : Cal l.prog w K mg base (CXe l.prog w) 3 "place_times" ["place", "fraction"] (spP K mg f_place_times) := ⟨_, _, ok_place_times T F4 C_lowest_place, PySem.W.mg_of X G a4, k4, b4⟩
 have F5 := fun_mk (st := s_is_share) l5 c5 k5
 have b5 := F5.binds (ps := ["share"]) fun _ _ _ _ _ _ us hl => match us, hl with | [_], _ => rfl
 have C_is_share : Cal l.prog w K mg base (CXe l.prog w) 2 "is_share" ["share"] (spP K mg f_is_share) := ⟨_, _, ok_is_share T F5 C_common_divisor, PySem.W.mg_of X G a5, k5, b5⟩
 have F6 := fun_mk (st := s_are_shares) l6 c6 k6
 have b6 := F6.binds (ps := ["wind", "shares"]) fun _ _ _ _ _ _ us hl => match us, hl with | [_, _], _ => rfl
 have C_are_shares : Cal l.prog w K mg base (CXe l.prog w) 3 "are_shares" ["wind", "shares"] (spP K mg f_are_shares) := ⟨_, _, ok_are_shares T F6 C_is_share, PySem.W.mg_of X G a6, k6, b6⟩
 have F7 := fun_mk (st := s_shares_sum) l7 c7 k7
 have b7 := F7.binds (ps := ["shares"]) fun _ _ _ _ _ _ us hl => match us, hl with | [_], _ => rfl
 have C_shares_sum : Cal l.prog w K mg base (CXe l.prog w) 3 "shares_sum" ["shares"] (spP K mg f_shares_sum) := ⟨_, _, ok_shares_sum T F7 C_added, PySem.W.mg_of X G a7, k7, b7⟩
 have F8 := fun_mk (st := s_shares_end) l8 c8 k8
 have b8 := F8.binds (ps := ["wind", "shares"]) fun _ _ _ _ _ _ us hl => match us, hl with | [_, _], _ => rfl
 have C_shares_end : Cal l.prog w K mg base (CXe l.prog w) 4 "shares_end" ["wind", "shares"] (spP K mg f_shares_end) := ⟨_, _, ok_shares_end T F8 C_place_added C_place_times C_are_shares, PySem.W.mg_of X G a8, k8, b8⟩
 have F9 := fun_mk (st := s_law_cell_at) l9 c9 k9
 have b9 := F9.binds (ps := ["script", "k"]) fun _ _ _ _ _ _ us hl => match us, hl with | [_, _], _ => rfl
 have C_law_cell_at : Cal l.prog w K mg base (CXe l.prog w) 1 "_law_cell_at" ["script", "k"] (spP K mg f_law_cell_at_d411b) := ⟨_, _, ok_law_cell_at T F9 , PySem.W.mg_of X G a9, k9, b9⟩
 have F10 := fun_mk (st := s_law_mix) l10 c10 k10
 have b10 := F10.binds (ps := ["cell", "k"]) fun _ _ _ _ _ _ us hl => match us, hl with | [_, _], _ => rfl
 have C_law_mix : Cal l.prog w K mg base (CXe l.prog w) 1 "_law_mix" ["cell", "k"] (spP K mg f_law_mix_a2b94) := ⟨_, _, ok_law_mix T F10 , PySem.W.mg_of X G a10, k10, b10⟩
 have F11 := fun_mk (st := s_law_same) l11 c11 k11
 have b11 := F11.binds (ps := ["found", "due"]) fun _ _ _ _ _ _ us hl => match us, hl with | [_, _], _ => rfl
 have C_law_same : Cal l.prog w K mg base (CXe l.prog w) 0 "_law_same" ["found", "due"] (spP K mg (f_law_same_a1d8f_r 0)) := ⟨_, _, fn_bot, PySem.W.mg_of X G a11, k11, b11⟩
 have C_law_same : Cal l.prog w K mg base (CXe l.prog w) 1 "_law_same" ["found", "due"] (spP K mg (f_law_same_a1d8f_r 1)) := ⟨_, _, ok_law_same T F11  C_law_same (by decide), PySem.W.mg_of X G a11, k11, b11⟩
 have C_law_same : Cal l.prog w K mg base (CXe l.prog w) 2 "_law_same" ["found", "due"] (spP K mg (f_law_same_a1d8f_r 2)) := ⟨_, _, ok_law_same T F11  C_law_same (by decide), PySem.W.mg_of X G a11, k11, b11⟩
 have C_law_same : Cal l.prog w K mg base (CXe l.prog w) 3 "_law_same" ["found", "due"] (spP K mg (f_law_same_a1d8f_r 3)) := ⟨_, _, ok_law_same T F11  C_law_same (by decide), PySem.W.mg_of X G a11, k11, b11⟩
 have C_law_same : Cal l.prog w K mg base (CXe l.prog w) 4 "_law_same" ["found", "due"] (spP K mg (f_law_same_a1d8f_r 4)) := ⟨_, _, ok_law_same T F11  C_law_same (by decide), PySem.W.mg_of X G a11, k11, b11⟩
 have F12 := fun_mk (st := s_law_vector) l12 c12 k12
 have b12 := F12.binds (ps := ["cell", "k", "most"]) fun _ _ _ _ _ _ us hl => match us, hl with | [_, _, _], _ => rfl
 have C_law_vector : Cal l.prog w K mg base (CXe l.prog w) 2 "_law_vector" ["cell", "k", "most"] (spP K mg f_law_vector_5237a) := ⟨_, _, ok_law_vector T F12 C_law_mix, PySem.W.mg_of X G a12, k12, b12⟩
 have F13 := fun_mk (st := s_law_digits) l13 c13 k13
 have b13 := F13.binds (ps := ["cell", "far"]) fun _ _ _ _ _ _ us hl => match us, hl with | [_, _], _ => rfl
 have C_law_digits : Cal l.prog w K mg base (CXe l.prog w) 1 "_law_digits" ["cell", "far"] (spP K mg f_law_digits_322a4) := ⟨_, _, ok_law_digits T F13 , PySem.W.mg_of X G a13, k13, b13⟩
 have F14 := fun_mk (st := s_law_within) l14 c14 k14
 have b14 := F14.binds (ps := ["number"]) fun _ _ _ _ _ _ us hl => match us, hl with | [_], _ => rfl
 have C_law_within : Cal l.prog w K mg base (CXe l.prog w) 1 "_law_within" ["number"] (spP K mg f_law_within_5c1cf) := ⟨_, _, ok_law_within T F14 , PySem.W.mg_of X G a14, k14, b14⟩
 have F15 := fun_mk (st := s_law_wind) l15 c15 k15
 have b15 := F15.binds (ps := ["cells", "most"]) fun _ _ _ _ _ _ us hl => match us, hl with | [_, _], _ => rfl
 have C_law_wind : Cal l.prog w K mg base (CXe l.prog w) 3 "_law_wind" ["cells", "most"] (spP K mg f_law_wind_28f7f) := ⟨_, _, ok_law_wind T F15 C_law_mix C_law_vector C_law_within, PySem.W.mg_of X G a15, k15, b15⟩
 have F16 := fun_mk (st := s_law_far_off) l16 c16 k16
 have b16 := F16.binds (ps := ["wind"]) fun _ _ _ _ _ _ us hl => match us, hl with | [_], _ => rfl
 have C_law_far_off : Cal l.prog w K mg base (CXe l.prog w) 1 "_law_far_off" ["wind"] (spP K mg f_law_far_off_b901c) := ⟨_, _, ok_law_far_off T F16 , PySem.W.mg_of X G a16, k16, b16⟩
 have F17 := fun_mk (st := s_law_free_pairs) l17 c17 k17
 have b17 := F17.binds (ps := ["cells", "far"]) fun _ _ _ _ _ _ us hl => match us, hl with | [_, _], _ => rfl
 have C_law_free_pairs : Cal l.prog w K mg base (CXe l.prog w) 2 "_law_free_pairs" ["cells", "far"] (spP K mg f_law_free_pairs_d0d6d) := ⟨_, _, ok_law_free_pairs T F17 C_law_digits, PySem.W.mg_of X G a17, k17, b17⟩
 have F18 := fun_mk (st := s_law_pairs) l18 c18 k18
 have b18 := F18.binds (ps := ["script"]) fun _ _ _ _ _ _ us hl => match us, hl with | [_], _ => rfl
 have C_law_pairs : Cal l.prog w K mg base (CXe l.prog w) 4 "_law_pairs" ["script"] (spP K mg f_law_pairs_3ea81) := ⟨_, _, ok_law_pairs T F18 C_law_cell_at C_law_mix C_law_wind C_law_far_off C_law_free_pairs, PySem.W.mg_of X G a18, k18, b18⟩
 have F19 := fun_mk (st := s_law_common) l19 c19 k19
 have b19 := F19.binds (ps := ["one", "other"]) fun _ _ _ _ _ _ us hl => match us, hl with | [_, _], _ => rfl
 have C_law_common : Cal l.prog w K mg base (CXe l.prog w) 1 "_law_common" ["one", "other"] (spP K mg f_law_common_d1171) := ⟨_, _, ok_law_common T F19 , PySem.W.mg_of X G a19, k19, b19⟩
 have F20 := fun_mk (st := s_law_lowest) l20 c20 k20
 have b20 := F20.binds (ps := ["top", "bottom"]) fun _ _ _ _ _ _ us hl => match us, hl with | [_, _], _ => rfl
 have C_law_lowest : Cal l.prog w K mg base (CXe l.prog w) 2 "_law_lowest" ["top", "bottom"] (spP K mg f_law_lowest_7d340) := ⟨_, _, ok_law_lowest T F20 C_law_common, PySem.W.mg_of X G a20, k20, b20⟩
 have F21 := fun_mk (st := s_law_reduced) l21 c21 k21
 have b21 := F21.binds (ps := ["east", "north", "bottom"]) fun _ _ _ _ _ _ us hl => match us, hl with | [_, _, _], _ => rfl
 have C_law_reduced : Cal l.prog w K mg base (CXe l.prog w) 2 "_law_reduced" ["east", "north", "bottom"] (spP K mg f_law_reduced_fa2e6) := ⟨_, _, ok_law_reduced T F21 C_law_common, PySem.W.mg_of X G a21, k21, b21⟩
 have F22 := fun_mk (st := s_law_end) l22 c22 k22
 have b22 := F22.binds (ps := ["wind", "shares"]) fun _ _ _ _ _ _ us hl => match us, hl with | [_, _], _ => rfl
 have C_law_end : Cal l.prog w K mg base (CXe l.prog w) 3 "_law_end" ["wind", "shares"] (spP K mg f_law_end_c275c) := ⟨_, _, ok_law_end T F22 C_law_reduced, PySem.W.mg_of X G a22, k22, b22⟩
 have F23 := fun_mk (st := s_law_together) l23 c23 k23
 have b23 := F23.binds (ps := ["shares"]) fun _ _ _ _ _ _ us hl => match us, hl with | [_], _ => rfl
 have C_law_together : Cal l.prog w K mg base (CXe l.prog w) 3 "_law_together" ["shares"] (spP K mg f_law_together_9214a) := ⟨_, _, ok_law_together T F23 C_law_lowest, PySem.W.mg_of X G a23, k23, b23⟩
 have F24 := fun_mk (st := s_law_any_shares) l24 c24 k24
 have b24 := F24.binds (ps := ["wind", "cell"]) fun _ _ _ _ _ _ us hl => match us, hl with | [_, _], _ => rfl
 have C_law_any_shares : Cal l.prog w K mg base (CXe l.prog w) 3 "_law_any_shares" ["wind", "cell"] (spP K mg f_law_any_shares_ef24c) := ⟨_, _, ok_law_any_shares T F24 C_law_mix C_law_lowest, PySem.W.mg_of X G a24, k24, b24⟩
 have F25 := fun_mk (st := s_law) l25 c25 k25
 exact law_of law_k17 (ok_law T F25 C_shares_sum C_shares_end C_law_same C_law_pairs C_law_end C_law_together C_law_any_shares)
theorem walk {l : PySem.W.OpenLaw} {q : Program} {loose : List Str} {XP : (Str -> Option Value) -> Heap -> Prop} {YP : World -> Heap -> Prop} {d : DefRec} {K : Params -> PySem.W.Frag} (hn : l.most = some 63) (hdf : d.params.defaults = [])
  (hY : ∀ (w : World) (h : Heap), YP w h -> (K w.params).In h)
  (F : ∀ (w : World) (mg : Str -> Option Value) (fa : Addr) (h : Heap), (K w.params).In h -> h.Ns mainGlobals mg -> mg d.name = some (.ref fa) ->
   ∃ fd : FuncData, (∀ (s : Shared) (u : Value), BindsTo s fd ⟨[u], []⟩ [("script", u)]) /\ ∀ base : Heap, (K w.params).In base -> base.Ns mainGlobals mg -> FnOk l.prog w (K w.params) mg base (CXe l.prog w) 5 fa fd ["script"] (spL (K w.params))) :
  PySem.W.WalkO q loose XP YP l.row.toRowW d [] (fun f vs => PySem.call f vs) :=
 L2.walk_of (n := 63) (k := 5) (x := "script") (CX := fun w => (CXe l.prog w)) (sp := fun w => spL (K w.params)) hn (by decide) hdf ⟨rfl, by decide, by decide⟩ hY F (fun _ _ a ns hl _ hS => ⟨a, ns, rfl, hS, hl, fun _ => rfl⟩) fun _ _ _ _ _ ⟨_, _, _, _, _, _, _, _, _, z⟩ => z
end My
open PySem PySem.W PyProof.Rows
set_option maxRecDepth 100000 in
set_option maxHeartbeats 0 in
theorem PySem.Challenge.cw_closehaul_k17_where_shares_lead_holds : PySem.Challenge.rw_closehaul_k17_where_shares_lead.Holds := by
 w_on; o_law; k_head; (case hw => w_witness2)
 k_fill
 refine My.walk (l := PySem.Challenge.rw_closehaul_k17_where_shares_lead) rfl rfl (fun w h Y => PySem.W.kIn_of Y) ?F
 case F =>
  intro w mg fa h KX G hmg
  refine' My.all_mk KX G hmg ?a0 ?l0 ?c0 ?k0 ?a1 ?l1 ?c1 ?k1 ?a2 ?l2 ?c2 ?k2 ?a3 ?l3 ?c3 ?k3 ?a4 ?l4 ?c4 ?k4 ?a5 ?l5 ?c5 ?k5 ?a6 ?l6 ?c6 ?k6 ?a7 ?l7 ?c7 ?k7 ?a8 ?l8 ?c8 ?k8 ?a9 ?l9 ?c9 ?k9 ?a10 ?l10 ?c10 ?k10 ?a11 ?l11 ?c11 ?k11 ?a12 ?l12 ?c12 ?k12 ?a13 ?l13 ?c13 ?k13 ?a14 ?l14 ?c14 ?k14 ?a15 ?l15 ?c15 ?k15 ?a16 ?l16 ?c16 ?k16 ?a17 ?l17 ?c17 ?k17 ?a18 ?l18 ?c18 ?k18 ?a19 ?l19 ?c19 ?k19 ?a20 ?l20 ?c20 ?k20 ?a21 ?l21 ?c21 ?k21 ?a22 ?l22 ?c22 ?k22 ?a23 ?l23 ?c23 ?k23 ?a24 ?l24 ?c24 ?k24 ?a25 ?l25 ?c25 ?k25 ?z_abs ?z_bool ?z_int ?z_isinstance ?z_len ?z_max ?z_min ?z_range ?z_str ?z_sum ?z_tuple ?aa_NoShares ?xx_NoShares
  (case a0 => k_is)
  (case l0 => k_is)
  (case c0 => k_is)
  (case k0 => k_is)
  (case a1 => k_is)
  (case l1 => k_is)
  (case c1 => k_is)
  (case k1 => k_is)
  (case a2 => k_is)
  (case l2 => k_is)
  (case c2 => k_is)
  (case k2 => k_is)
  (case a3 => k_is)
  (case l3 => k_is)
  (case c3 => k_is)
  (case k3 => k_is)
  (case a4 => k_is)
  (case l4 => k_is)
  (case c4 => k_is)
  (case k4 => k_is)
  (case a5 => k_is)
  (case l5 => k_is)
  (case c5 => k_is)
  (case k5 => k_is)
  (case a6 => k_is)
  (case l6 => k_is)
  (case c6 => k_is)
  (case k6 => k_is)
  (case a7 => k_is)
  (case l7 => k_is)
  (case c7 => k_is)
  (case k7 => k_is)
  (case a8 => k_is)
  (case l8 => k_is)
  (case c8 => k_is)
  (case k8 => k_is)
  (case a9 => k_is)
  (case l9 => k_is)
  (case c9 => k_is)
  (case k9 => k_is)
  (case a10 => k_is)
  (case l10 => k_is)
  (case c10 => k_is)
  (case k10 => k_is)
  (case a11 => k_is)
  (case l11 => k_is)
  (case c11 => k_is)
  (case k11 => k_is)
  (case a12 => k_is)
  (case l12 => k_is)
  (case c12 => k_is)
  (case k12 => k_is)
  (case a13 => k_is)
  (case l13 => k_is)
  (case c13 => k_is)
  (case k13 => k_is)
  (case a14 => k_is)
  (case l14 => k_is)
  (case c14 => k_is)
  (case k14 => k_is)
  (case a15 => k_is)
  (case l15 => k_is)
  (case c15 => k_is)
  (case k15 => k_is)
  (case a16 => k_is)
  (case l16 => k_is)
  (case c16 => k_is)
  (case k16 => k_is)
  (case a17 => k_is)
  (case l17 => k_is)
  (case c17 => k_is)
  (case k17 => k_is)
  (case a18 => k_is)
  (case l18 => k_is)
  (case c18 => k_is)
  (case k18 => k_is)
  (case a19 => k_is)
  (case l19 => k_is)
  (case c19 => k_is)
  (case k19 => k_is)
  (case a20 => k_is)
  (case l20 => k_is)
  (case c20 => k_is)
  (case k20 => k_is)
  (case a21 => k_is)
  (case l21 => k_is)
  (case c21 => k_is)
  (case k21 => k_is)
  (case a22 => k_is)
  (case l22 => k_is)
  (case c22 => k_is)
  (case k22 => k_is)
  (case a23 => k_is)
  (case l23 => k_is)
  (case c23 => k_is)
  (case k23 => k_is)
  (case a24 => k_is)
  (case l24 => k_is)
  (case c24 => k_is)
  (case k24 => k_is)
  (case a25 => k_is)
  (case l25 => k_is)
  (case c25 => k_is)
  (case k25 => k_is)
  (case z_abs => k_is)
  (case z_bool => k_is)
  (case z_int => k_is)
  (case z_isinstance => k_is)
  (case z_len => k_is)
  (case z_max => k_is)
  (case z_min => k_is)
  (case z_range => k_is)
  (case z_str => k_is)
  (case z_sum => k_is)
  (case z_tuple => k_is)
  (case aa_NoShares => k_is)
  (case xx_NoShares => k_exc)
