import PyProof.Rows.All
import Wide.All
import OpenK.AllK
import Wide.FinOn
import Lean
import PyProof.EqAt
import PyProof.EqKinds
import PyProof.TupleCall
import PySem.Challenge.RW_tilefloor_k09_plain_floors
-- CHANGE: your row's module here, as the last of these rows
set_option Elab.async false
set_option linter.all false
set_option maxRecDepth 100000
/-! THE HAND LAYER, for ints, bools, texts, own classes, LISTS and tuples (index, slices, in, append, pop ..), calls, loops. Paste it whole ahead of your own text; what your proof does not reach may be deleted. -/
namespace L2
open PySem PySem.Spec PyProof.Rows

/-- a key: an int or a str -/
abbrev Key := Sum Int Str
def keyIs : Key → Value → Bool
  | .inl k, v => Value.isInt k v
  | .inr x, v => Value.isStrOf x v
def keyH (w : World) : Key → Int
  | .inl k => hashInt k
  | .inr x => hashStr w x
theorem keyIs_shape : ∀ {k : Key} {v : Value}, keyIs k v = true → (∃ i t, k = Sum.inl i ∧ v = Value.int i t) ∨ (∃ x t, k = Sum.inr x ∧ v = Value.str x t)
  | .inl i, v, h => by
    obtain ⟨t, e⟩ := Value.isInt_shape (k := i) (v := v) h
    exact .inl ⟨i, t, rfl, e⟩
  | .inr x, v, h => by
    obtain ⟨t, e⟩ := Value.isStrOf_shape (x := x) (v := v) h
    exact .inr ⟨x, t, rfl, e⟩
theorem keyIs_int (i : Int) (t : Tok) : keyIs (.inl i) (.int i t) = true := by simp [keyIs, Value.isInt]
theorem keyIs_str (x : Str) (t : Tok) : keyIs (.inr x) (.str x t) = true := by simp [keyIs, Value.isStrOf]
theorem key_ll (a b : Int) : decide ((Sum.inl a : Key) = Sum.inl b) = (a == b) := by
  by_cases e : a = b
  · subst e; simp
  · have h : ¬ (Sum.inl a : Key) = Sum.inl b := fun q => e (Sum.inl.inj q)
    rw [decide_eq_false h]
    exact (beq_eq_false_iff_ne.mpr e).symm
theorem key_rr (a b : Str) : decide ((Sum.inr a : Key) = Sum.inr b) = decide (a = b) := by
  by_cases e : a = b
  · subst e; simp
  · have h : ¬ (Sum.inr a : Key) = Sum.inr b := fun q => e (Sum.inr.inj q)
    rw [decide_eq_false h, decide_eq_false e]
theorem key_lr (a : Int) (b : Str) : decide ((Sum.inl a : Key) = Sum.inr b) = false := decide_eq_false (fun q => nomatch q)
theorem key_rl (a : Str) (b : Int) : decide ((Sum.inr a : Key) = Sum.inl b) = false := decide_eq_false (fun q => nomatch q)

def mixKind (prog : Program) (w : World) : PySem.KeyKind prog w Key where
  is := keyIs
  hash := keyH w
  inj := fun v a b ha hb => by
    rcases keyIs_shape ha with ⟨i, t, rfl, rfl⟩ | ⟨x, t, rfl, rfl⟩
    · rcases keyIs_shape hb with ⟨j, u, rfl, e⟩ | ⟨y, u, rfl, e⟩
      · injection e with e1 _; rw [e1]
      · exact nomatch e
    · rcases keyIs_shape hb with ⟨j, u, rfl, e⟩ | ⟨y, u, rfl, e⟩
      · exact nomatch e
      · injection e with e1 _; rw [e1]
  byValue := fun k v h => by
    rcases keyIs_shape h with ⟨i, t, rfl, rfl⟩ | ⟨x, t, rfl, rfl⟩ <;> rfl
  pyHash := fun hv h => by
    rcases keyIs_shape hv with ⟨i, t, rfl, rfl⟩ | ⟨x, t, rfl, rfl⟩
    · exact wpAny_pyHash_int h
    · exact wpAny_pyHash_str h
  eqBool := fun hu hv h => by
    rcases keyIs_shape hu with ⟨i, t, rfl, rfl⟩ | ⟨x, t, rfl, rfl⟩
    · rcases keyIs_shape hv with ⟨j, u, rfl, rfl⟩ | ⟨y, u, rfl, rfl⟩
      · rw [key_ll] at h; exact wpAny_eqBool_int h
      · rw [key_lr] at h; exact SeqAt.EqAt.int_str i t y u _ _ _ _ h
    · rcases keyIs_shape hv with ⟨j, u, rfl, rfl⟩ | ⟨y, u, rfl, rfl⟩
      · rw [key_rl] at h; exact SeqAt.EqAt.str_int x t j u _ _ _ _ h
      · rw [key_rr] at h; exact wpAny_eqBool_str h
  «strs» := fun k x t v h => by
    rcases keyIs_shape h with ⟨i, u, rfl, e⟩ | ⟨y, u, rfl, e⟩
    · exact nomatch e
    · injection e with e1 _
      subst e1
      cases v <;> rfl

theorem mixKind_is (prog : Program) (w : World) (k : Key) (v : Value) : (mixKind prog w).is k v = keyIs k v := rfl
theorem mixKind_int (prog : Program) (w : World) (i : Int) (t : Tok) : (mixKind prog w).is (.inl i) (.int i t) = true := keyIs_int i t
theorem mixKind_str (prog : Program) (w : World) (x : Str) (t : Tok) : (mixKind prog w).is (.inr x) (.str x t) = true := keyIs_str x t
end L2

namespace L2
open PySem PySem.Spec PyProof.Rows

/-- a value, without the heap -/
inductive V where
  | non | bl (b : Bool) | int (i : Int) | str (x : Str) | byt (b : Array UInt8) | flt (b : UInt64) | ref (a : Addr) | ty (n : String)
  deriving DecidableEq

def RelV : V → Value → Prop
  | .non, u => u = Value.none
  | .bl b, u => u = Value.bool b
  | .int i, u => ∃ t, u = Value.int i t
  | .str x, u => ∃ t, u = Value.str x t
  | .byt b, u => ∃ t, u = Value.bytes b t
  | .flt b, u => ∃ t, u = Value.float b t
  | .ref a, u => u = Value.ref a
  | .ty n, u => u = Value.type n

abbrev Vals : List V → List Value → Prop := Paired RelV
theorem Vals.length {xs : List V} {us : List Value} (r : Vals xs us) : xs.length = us.length := Paired.length r
theorem Vals.get : ∀ {xs : List V} {us : List Value} {i : Nat} {x : V}, Vals xs us → xs[i]? = some x → ∃ u, us[i]? = some u ∧ RelV x u
  | _, _, _, _, .nil, e => by simp at e
  | _, _, 0, _, .cons r _, e => by simp at e; subst e; exact ⟨_, rfl, r⟩
  | _, _, i + 1, x, .cons _ t, e => by
    obtain ⟨u, h1, h2⟩ := Vals.get (i := i) (x := x) t (by simpa using e)
    exact ⟨u, by simpa using h1, h2⟩
theorem Vals.set {x : V} {u : Value} (r : RelV x u) : ∀ {xs : List V} {us : List Value} (i : Nat), Vals xs us → Vals (xs.set i x) (us.set i u)
  | _, _, _, .nil => .nil
  | _, _, 0, .cons _ t => .cons r t
  | _, _, i + 1, .cons q t => .cons q (Vals.set r i t)
theorem Vals.append : ∀ {xs ys : List V} {us ws : List Value}, Vals xs us → Vals ys ws → Vals (xs ++ ys) (us ++ ws)
  | _, _, _, _, .nil, s => s
  | _, _, _, _, .cons r t, s => .cons r (Vals.append t s)
theorem Vals.take : ∀ {xs : List V} {us : List Value} (n : Nat), Vals xs us → Vals (xs.take n) (us.take n)
  | _, _, 0, _ => .nil
  | _, _, _ + 1, .nil => .nil
  | _, _, n + 1, .cons r t => .cons r (Vals.take n t)
theorem Vals.drop : ∀ {xs : List V} {us : List Value} (n : Nat), Vals xs us → Vals (xs.drop n) (us.drop n)
  | _, _, 0, r => r
  | _, _, _ + 1, .nil => .nil
  | _, _, n + 1, .cons _ t => Vals.drop n t
theorem Vals.none_of : ∀ {xs : List V} {us : List Value} {i : Nat}, Vals xs us → xs[i]? = none → us[i]? = none := fun {xs us i} r e => by
  have h1 := r.length
  have h2 : xs.length ≤ i := List.getElem?_eq_none_iff.mp e
  exact List.getElem?_eq_none_iff.mpr (by omega)

def RelO : Option V → Option Value → Prop
  | some v, some u => RelV v u
  | none, none => True
  | _, _ => False
def KV {κ : Type} : List (κ × V) → List (κ × Value) → Prop := Paired fun (p : κ × V) (q : κ × Value) => p.1 = q.1 ∧ RelV p.2 q.2

/-- a key of a dict (00_mix): an int or a text -/
def kV : Key → V
  | .inl i => .int i
  | .inr x => .str x

/-- what stands at a tracked address -/
inductive HO where
  /-- a list -/
  | lst (xs : List V)
  /-- a tuple (never changes) -/
  | tup (xs : List V)
  /-- a dict whose keys are ints and texts; one whose keys are tuples of ints and texts (the empty one is both) -/
  | dK (kvs : List (Key × V)) | dT (kvs : List (List Key × V))
  /-- a set of ints: its members, its size -/
  | set (S : Int → Bool) (n : Nat)
  /-- an instance of the class at C, its dict at dx, its attributes -/
  | ins (C dx : Addr) (fs : List (Str × V))
  /-- the dict of the instance at x -/
  | own (x : Addr)
  /-- the dict of an exception -/
  | xd (fs : List (Str × V))
  /-- a bound method, f of x -/
  | met (f x : Addr)
  /-- a range object lo, lo + 1, .. below hi -/
  | rng (lo hi : Int)
  /-- a thing that is known to the object (the script; a dict while a loop walks it): read, never written while it is so -/
  | frz (o : Obj) (u : HO)
  /-- a code object's table -/
  | tbl (ps : Array Value)
  /-- any other thing, by what is true of its one object (a def of one's own: SetO a S n := HO.ext fun h => ..) -/
  | ext (φ : Heap → Prop)

abbrev Hp := Addr → Option HO
def upd (H : Hp) (a : Addr) (o : HO) : Hp := fun b => if b = a then some o else H b
theorem upd_same {H : Hp} {a : Addr} {o : HO} : upd H a o a = some o := by unfold upd; rw [if_pos rfl]
theorem upd_ne {H : Hp} {a b : Addr} {o : HO} (h : b ≠ a) : upd H a o b = H b := by unfold upd; rw [if_neg h]
theorem upd_upd {H : Hp} {a : Addr} {o u : HO} : upd (upd H a o) a u = upd H a u := by
  funext b; unfold upd; split <;> rfl
/-- two objects of different content stand apart -/
theorem ne_of {H : Hp} {a b : Addr} {o u : HO} (h : H a = some o) (h' : H b = some u) (d : o ≠ u) : a ≠ b := by
  intro e; subst e; rw [h] at h'; exact d (Option.some.inj h')
theorem ne_of_none {H : Hp} {a b : Addr} {o : HO} (h : H a = some o) (h' : H b = none) : a ≠ b := by
  intro e; subst e; rw [h] at h'; cases h'

section
variable (P : Program) (w : World)
def ObjOk (H : Hp) (h : Heap) (a : Addr) : HO → Prop
  | .lst xs => xs.length ≤ sizeLine ∧ ∃ (its : List Value) (n : Nat), Vals xs its ∧ h.get? a = some { cls := .type "list", data := .seq its.toArray n }
  | .tup xs => xs.length ≤ sizeLine ∧ ∃ its : List Value, Vals xs its ∧ IsTup h a its.toArray
  | .dK kvs => kvs.length ≤ sizeLine ∧ (a == sysModules) = false ∧ ∃ vs, KV kvs vs ∧ h.DictOf (mixKind P w) a vs
  | .dT kvs => kvs.length ≤ sizeLine ∧ (a == sysModules) = false ∧ ∃ xs : List (List Key × Addr × Value),
      Paired (fun (p : List Key × V) (q : List Key × Addr × Value) => p.1 = q.1 ∧ H q.2.1 = some (.tup (p.1.map kV)) ∧ RelV p.2 q.2.2) kvs xs ∧
      ∃ o es ep, h.get? a = some o ∧ o.ExactDict ∧ o.data = .dict es ep ∧ es.toList = xs.map (entryOfKey (tupleKind (mixKind P w))) ∧ (xs.map (·.1)).Nodup
  | .set S n => h.SetOf (intKind P w) a S n
  | .ins C dx fs => H dx = some (.own a) ∧ fs.length ≤ 1000 ∧ dx ≠ a ∧ h.get? a = some (PySem.W.instObj C dx) ∧
      ∃ mA, h.Ns1 dx mA ∧ (∀ f, RelO (fs.lookup f) (mA f)) ∧ PySem.Within mA (fs.map (·.1))
  | .own _ => ∃ o, h.get? a = some o
  | .xd fs => ∃ mA, h.Ns1 a mA ∧ ∀ f, RelO (fs.lookup f) (mA f)
  | .rng lo hi => ∃ t u v, h.get? a = some { cls := .type "range", data := .fields #[.int lo t, .int hi u, .int 1 v] }
  | .frz o u => h.get? a = some o ∧ ObjOk H h a u
  | .tbl ps => h.get? a = some { cls := .none, data := .fields ps }
  | .met f x => h.get? a = some (PySem.W.methodObj (.ref f) (.ref x))
  | .ext φ => φ h ∧ (∃ o, h.get? a = some o) ∧ ∀ h1 h2 : Heap, φ h1 → (∀ o, h1.get? a = some o → h2.get? a = some o) → φ h2
/-- the abstract heap is held -/
def HOk (H : Hp) (h : Heap) : Prop := ∀ a o, H a = some o → ObjOk P w H h a o
end

section
variable {P : Program} {w : World} {H H' : Hp} {h h' : Heap} {a : Addr} {o : HO}
theorem ObjOk.lt (x : ObjOk P w H h a o) : a < h.objs.size := by
  cases o with
  | lst xs => obtain ⟨_, _, _, _, e⟩ := x; exact Heap.lt_size e
  | tup xs => obtain ⟨_, _, _, p⟩ := x; exact p.lt
  | dK kvs => obtain ⟨_, _, _, _, o, _, _, e, _⟩ := x; exact Heap.lt_size e
  | dT kvs => obtain ⟨_, _, _, _, o, _, _, e, _⟩ := x; exact Heap.lt_size e
  | set S n => obtain ⟨o, _, _, _, e, _⟩ := x; exact Heap.lt_size e
  | ins C dx fs => obtain ⟨_, _, _, e, _⟩ := x; exact Heap.lt_size e
  | own y => obtain ⟨_, e⟩ := x; exact Heap.lt_size e
  | xd fs => obtain ⟨_, ⟨_, _, _, e, _⟩, _⟩ := x; exact Heap.lt_size e
  | rng lo hi => obtain ⟨_, _, _, e⟩ := x; exact Heap.lt_size e
  | frz ob u => obtain ⟨e, _⟩ := x; exact Heap.lt_size e
  | tbl ps => exact Heap.lt_size (show h.get? a = some _ from x)
  | met f y => exact Heap.lt_size (show h.get? a = some _ from x)
  | ext φ => obtain ⟨_, ⟨_, e⟩, _⟩ := x; exact Heap.lt_size e
theorem Paired.mapP {α β : Type} {F G : α → β → Prop} : ∀ {l₁ : List α} {l₂ : List β}, Paired F l₁ l₂ → (∀ a b, F a b → G a b) → Paired G l₁ l₂
  | _, _, .nil, _ => .nil
  | _, _, .cons r t, f => .cons (f _ _ r) (Paired.mapP t f)
theorem Paired.imp' {α β : Type} {F G : α → β → Prop} (f : ∀ a b, F a b → G a b) {l₁ : List α} {l₂ : List β} (r : Paired F l₁ l₂) : Paired G l₁ l₂ := Paired.mapP r f
/-- what an object's description leans on: its own object, its own dict, the tuples -/
theorem ObjOk.stay (x : ObjOk P w H h a o) (k : ∀ b u, (b = a ∨ H b = some (.own a)) → h.get? b = some u → h'.get? b = some u)
    (ho : ∀ b, H b = some (.own a) → H' b = some (.own a)) (ht : ∀ b xs, H b = some (.tup xs) → H' b = some (.tup xs)) : ObjOk P w H' h' a o := by
  induction o with
  | lst xs => obtain ⟨z, its, n, r, e⟩ := x; exact ⟨z, its, n, r, k _ _ (.inl rfl) e⟩
  | tup xs => obtain ⟨z, its, r, ob, e, c⟩ := x; exact ⟨z, its, r, ob, k _ _ (.inl rfl) e, c⟩
  | dK kvs => obtain ⟨z, y, vs, r, ob, es, ep, e, c⟩ := x; exact ⟨z, y, vs, r, ob, es, ep, k _ _ (.inl rfl) e, c⟩
  | dT kvs =>
    obtain ⟨z, y, xs, r, ob, es, ep, e, c⟩ := x
    exact ⟨z, y, xs, Paired.mapP r fun p q z => ⟨z.1, ht _ _ z.2.1, z.2.2⟩, ob, es, ep, k _ _ (.inl rfl) e, c⟩
  | set S n => obtain ⟨ob, es, ep, t, e, c⟩ := x; exact ⟨ob, es, ep, t, k _ _ (.inl rfl) e, c⟩
  | ins C dx fs =>
    obtain ⟨d, z, ne, e, mA, ⟨od, es, ep, e2, c⟩, r⟩ := x
    exact ⟨ho _ d, z, ne, k _ _ (.inl rfl) e, mA, ⟨od, es, ep, k _ _ (.inr d) e2, c⟩, r⟩
  | own y => obtain ⟨ob, e⟩ := x; exact ⟨ob, k _ _ (.inl rfl) e⟩
  | xd fs => obtain ⟨mA, ⟨od, es, ep, e, c⟩, r⟩ := x; exact ⟨mA, ⟨od, es, ep, k _ _ (.inl rfl) e, c⟩, r⟩
  | rng lo hi => obtain ⟨t, u, v, e⟩ := x; exact ⟨t, u, v, k _ _ (.inl rfl) e⟩
  | frz ob u ih => obtain ⟨e, q⟩ := x; exact ⟨k _ _ (.inl rfl) e, ih q⟩
  | tbl ps =>
    have e : h.get? a = some { cls := .none, data := .fields ps } := x
    show h'.get? a = some { cls := .none, data := .fields ps }
    exact k a _ (.inl rfl) e
  | met f y =>
    have e : h.get? a = some (PySem.W.methodObj (.ref f) (.ref y)) := x
    show h'.get? a = some (PySem.W.methodObj (.ref f) (.ref y))
    exact k a _ (.inl rfl) e
  | ext φ => obtain ⟨p, ⟨o, e⟩, st⟩ := x; exact ⟨st _ _ p fun o q => k _ _ (.inl rfl) q, ⟨o, k _ _ (.inl rfl) e⟩, st⟩
theorem HOk.lt (x : HOk P w H h) (e : H a = some o) : a < h.objs.size := (x a o e).lt
theorem HOk.fresh (x : HOk P w H h) (e : h.objs.size ≤ a) : H a = none := by
  cases q : H a with
  | none => rfl
  | some u => exact absurd (Nat.lt_of_lt_of_le (x.lt q) e) (Nat.lt_irrefl _)
/-- every object of the heap is kept -/
theorem HOk.kept (x : HOk P w H h) (k : ∀ b u, h.get? b = some u → h'.get? b = some u) : HOk P w H h' := fun a o e =>
  (x a o e).stay (fun b u _ q => k b u q) (fun _ q => q) fun _ _ q => q
/-- a new object is laid and tracked -/
theorem HOk.laid (x : HOk P w H h) (k : ∀ b u, h.get? b = some u → h'.get? b = some u) (hp : h.objs.size ≤ a) (new : ObjOk P w (upd H a o) h' a o) : HOk P w (upd H a o) h' := fun b u e => by
  have hn := x.fresh hp
  by_cases hb : b = a
  · subst hb; rw [upd_same] at e; cases e; exact new
  · rw [upd_ne hb] at e
    exact (x b u e).stay (fun c v _ q => k c v q) (fun c q => by rw [upd_ne (ne_of_none q hn)]; exact q) fun c xs q => by rw [upd_ne (ne_of_none q hn)]; exact q
end

/-- what may be read as u: it is u, or a known u -/
def Rd (H : Hp) (a : Addr) (u : HO) : Prop := H a = some u ∨ ∃ o, H a = some (.frz o u)
theorem Rd.of {H : Hp} {a : Addr} {u : HO} (h : H a = some u) : Rd H a u := .inl h
theorem Rd.ok {P : Program} {w : World} {H : Hp} {h : Heap} {a : Addr} {u : HO} (r : Rd H a u) (x : HOk P w H h) : ObjOk P w H h a u := by
  rcases r with r | ⟨o, r⟩
  · exact x a u r
  · obtain ⟨_, q⟩ := x a _ r
    exact q
/-- what may be written -/
def Mut : Option HO → Prop
  | some (.lst _) => True
  | some (.dK _) => True
  | some (.dT _) => True
  | some (.set _ _) => True
  | some (.ins _ _ _) => True
  | some (.ext _) => True
  | _ => False
section
variable {P : Program} {w : World} {H : Hp} {h h' : Heap} {x e : Addr} {o' : HO}
/-- the object at e is changed: x itself, or the dict of the instance x -/
theorem HOk.write (ok : HOk P w H h) (mu : Mut (H x)) (he : e = x ∨ H e = some (.own x)) (k : ∀ b u, b ≠ e → h.get? b = some u → h'.get? b = some u) (heo : ∃ u, h'.get? e = some u)
    (new : ObjOk P w (upd H x o') h' x o') : HOk P w (upd H x o') h' := fun b u q => by
  have nown : ∀ c y, H c = some (.own y) → c ≠ x := fun c y r z => by subst z; rw [r] at mu; exact mu
  have ntup : ∀ c xs, H c = some (.tup xs) → c ≠ x := fun c xs r z => by subst z; rw [r] at mu; exact mu
  by_cases hb : b = x
  · subst hb; rw [upd_same] at q; cases q; exact new
  · rw [upd_ne hb] at q
    by_cases hbe : b = e
    · have q' : H b = some (.own x) := by
        rcases he with z | z
        · exact absurd (hbe.trans z) hb
        · rw [hbe]; exact z
      rw [q] at q'; cases q'
      obtain ⟨v, hv⟩ := heo
      exact ⟨v, by rw [hbe]; exact hv⟩
    · refine (ok b u q).stay (fun c v hc r => k c v ?_ r) (fun c r => by rw [upd_ne (nown c b r)]; exact r) fun c xs r => by rw [upd_ne (ntup c xs r)]; exact r
      rcases hc with rfl | hc
      · exact hbe
      · rintro rfl
        rcases he with z | z
        · exact nown c b hc z
        · rw [hc] at z; cases z; exact hb rfl
end

/-! ### kept unless tracked; of the frames at fs (the callers') the slots may change (an exception that passes writes there); of the records at ex (iterators) nothing is said -/
structure Un (fs ex : List Addr) (H H' : Hp) (h h' : Heap) : Prop where
  keep : ∀ b o, h.get? b = some o → H b = none → b ∉ fs → b ∉ ex → h'.get? b = some o
  slot : ∀ b o, h.get? b = some o → H b = none → b ∈ fs → b ∉ ex → ∃ sl, h'.get? b = some { o with slots := sl }
  free : ∀ b o, h.get? b = some o → H b = none → b ∉ ex → H' b = none
  there : ∀ b o, h.get? b = some o → b ∉ ex → ∃ o', h'.get? b = some o'
  tups : ∀ b xs, H b = some (.tup xs) → H' b = some (.tup xs)
  frzs : ∀ b o u, H b = some (.frz o u) → H' b = some (.frz o u)
  tbls : ∀ b ps, H b = some (.tbl ps) → ∃ more, H' b = some (.tbl (ps ++ more))
section
variable {fs fs' ex ex' : List Addr} {H H1 H2 : Hp} {h h1 h2 h' : Heap} {a x e : Addr} {o : HO}
theorem Un.any (u : Un fs ex H H1 h h1) {b : Addr} {ob : Obj} (q : h.get? b = some ob) (n : H b = none) (hx : b ∉ ex) : ∃ sl, h1.get? b = some { ob with slots := sl } := by
  by_cases hb : b ∈ fs
  · exact u.slot b ob q n hb hx
  · exact ⟨ob.slots, u.keep b ob q n hb hx⟩
theorem Un.trans (a : Un fs ex H H1 h h1) (b : Un fs ex H1 H2 h1 h2) : Un fs ex H H2 h h2 where
  keep := fun c ob q n hc hx => b.keep c ob (a.keep c ob q n hc hx) (a.free c ob q n hx) hc hx
  slot := fun c ob q n hc hx => by
    obtain ⟨sl, e1⟩ := a.slot c ob q n hc hx
    obtain ⟨sl', e2⟩ := b.slot c _ e1 (a.free c ob q n hx) hc hx
    exact ⟨sl', e2⟩
  free := fun c ob q n hx => by
    obtain ⟨o', e1⟩ := a.there c ob q hx
    exact b.free c o' e1 (a.free c ob q n hx) hx
  there := fun c ob q hx => by
    obtain ⟨o', e1⟩ := a.there c ob q hx
    exact b.there c o' e1 hx
  tups := fun c xs q => b.tups c xs (a.tups c xs q)
  frzs := fun c ob xs q => b.frzs c ob xs (a.frzs c ob xs q)
  tbls := fun c ps q => by
    obtain ⟨m1, e1⟩ := a.tbls c ps q
    obtain ⟨m2, e2⟩ := b.tbls c _ e1
    exact ⟨m1 ++ m2, by rw [e2, Array.append_assoc]⟩
theorem Un.kept (k : ∀ b u, h.get? b = some u → h'.get? b = some u) : Un fs ex H H h h' :=
  ⟨fun b ob q _ _ _ => k b ob q, fun b ob q _ _ _ => ⟨ob.slots, k b ob q⟩, fun _ _ _ n _ => n, fun b ob q _ => ⟨ob, k b ob q⟩, fun _ _ q => q, fun _ _ _ q => q, fun _ ps q => ⟨#[], by rw [q]; simp⟩⟩
theorem Un.refl : Un fs ex H H h h := Un.kept fun _ _ q => q
theorem Un.laid (k : ∀ b u, h.get? b = some u → h'.get? b = some u) (hp : h.objs.size ≤ a) (hn : H a = none) : Un fs ex H (upd H a o) h h' where
  keep := fun b u q _ _ _ => k b u q
  slot := fun b u q _ _ _ => ⟨u.slots, k b u q⟩
  free := fun b u q n _ => by rw [upd_ne (Nat.ne_of_lt (Nat.lt_of_lt_of_le (Heap.lt_size q) hp))]; exact n
  there := fun b u q _ => ⟨u, k b u q⟩
  tups := fun b xs q => by rw [upd_ne (ne_of_none q hn)]; exact q
  frzs := fun b u xs q => by rw [upd_ne (ne_of_none q hn)]; exact q
  tbls := fun b ps q => ⟨#[], by rw [upd_ne (ne_of_none q hn), q]; simp⟩
theorem Un.write (mu : Mut (H x)) (he : e = x ∨ H e = some (.own x)) (k : ∀ b u, b ≠ e → h.get? b = some u → h'.get? b = some u) (heo : ∃ u, h'.get? e = some u) : Un fs ex H (upd H x o) h h' := by
  have hx : ∀ b, H b = none → b ≠ x := fun b n z => by subst z; rw [n] at mu; exact mu
  have hb : ∀ b, H b = none → b ≠ e := fun b n z => by
    subst z
    rcases he with r | r
    · exact hx b n r
    · rw [n] at r; cases r
  have hm : ∀ b u, H b = some u → ¬ Mut (some u) → b ≠ x := fun b u q nm z => by subst z; rw [q] at mu; exact nm mu
  refine ⟨fun b u q n _ _ => k b u (hb b n) q, fun b u q n _ _ => ⟨u.slots, k b u (hb b n) q⟩, fun b u q n _ => by rw [upd_ne (hx b n)]; exact n, fun b u q _ => ?_,
    fun b xs q => by rw [upd_ne (hm b _ q fun z => z)]; exact q, fun b u xs q => by rw [upd_ne (hm b _ q fun z => z)]; exact q, fun b ps q => ⟨#[], by rw [upd_ne (hm b _ q fun z => z), q]; simp⟩⟩
  by_cases hbe : b = e
  · subst hbe; exact heo
  · exact ⟨u, k b u hbe q⟩
theorem Un.mono (u : Un fs ex H H1 h h1) (hs : ∀ b ∈ fs, b ∈ fs') (hx : ∀ b ∈ ex, b ∈ ex') : Un fs' ex' H H1 h h1 :=
  ⟨fun b ob q n hb he => u.keep b ob q n (fun z => hb (hs b z)) fun z => he (hx b z), fun _ _ q n _ he => u.any q n fun z => he (hx _ z), fun b ob q n he => u.free b ob q n fun z => he (hx b z), fun b ob q he => u.there b ob q fun z => he (hx b z), u.tups, u.frzs, u.tbls⟩
end

/-! ### the heap without what is tracked -/
def trk (h : Heap) (H : Hp) : List Addr := (List.range h.objs.size).filter fun a => (H a).isSome
def hidT (h : Heap) (H : Hp) : Heap := PySem.W.hideAll h (trk h H)
theorem hidT_size (h : Heap) (H : Hp) : (hidT h H).objs.size = h.objs.size := PySem.W.hideAll_size _ _
theorem hidT_get {h : Heap} {H : Hp} {b : Addr} {o : Obj} (e : h.get? b = some o) (n : H b = none) : (hidT h H).get? b = some o :=
  PySem.W.hideAll_get _ e fun hm => by
    have q : (H b).isSome = true := (List.mem_filter.mp hm).2
    rw [n] at q; simp at q
theorem of_hidT {h : Heap} {H : Hp} {b : Addr} {o : Obj} (e : (hidT h H).get? b = some o) : h.get? b = some o ∧ H b = none := by
  have e' : h.get? b = some o := PySem.W.of_hideAll (trk h H) e
  refine ⟨e', ?_⟩
  cases q : H b with
  | none => rfl
  | some x =>
    have hm : b ∈ trk h H := List.mem_filter.mpr ⟨List.mem_range.mpr (Heap.lt_size e'), by simp [q]⟩
    have z : (hidT h H).get? b = none := PySem.W.hideAll_none (trk h H) hm
    rw [z] at e; cases e

/-! ### OpenK's ledger, filled with every new object but one -/
def allNews (g h : Heap) (L : Addr) : List (Addr × Obj) := (List.range h.objs.size).filterMap fun a => if a = L ∨ (g.get? a).isSome = true then none else (h.get? a).map fun o => (a, o)
theorem mem_allNews {g h : Heap} {L a : Addr} {o : Obj} (h1 : a ≠ L) (h2 : g.get? a = none) (h3 : h.get? a = some o) : (a, o) ∈ allNews g h L :=
  List.mem_filterMap.mpr ⟨a, List.mem_range.mpr (Heap.lt_size h3), by simp [h1, h2, h3]⟩
theorem of_mem_allNews {g h : Heap} {L : Addr} {p : Addr × Obj} (hp : p ∈ allNews g h L) : p.1 ≠ L ∧ g.get? p.1 = none ∧ h.get? p.1 = some p.2 := by
  obtain ⟨b, _, e⟩ := List.mem_filterMap.mp hp
  split at e
  · cases e
  · rename_i hn
    cases q : h.get? b with
    | none => rw [q] at e; simp at e
    | some u =>
      rw [q] at e
      simp only [Option.map_some, Option.some.injEq] at e
      subst e
      refine ⟨fun z => hn (.inl z), ?_, q⟩
      show g.get? b = none
      cases r : g.get? b with
      | none => rfl
      | some v => exact (hn (.inr (by simp [r]))).elim
def rest (g h : Heap) (L d : Addr) : List (Addr × Obj) := (allNews g h L).filter fun p => decide (p.1 ≠ d)
theorem rest_ne {g h : Heap} {L d : Addr} : ∀ p ∈ rest g h L d, p.1 ≠ d := fun p hp => of_decide_eq_true (List.mem_filter.mp hp).2
theorem mem_rest {g h : Heap} {L d a : Addr} {o : Obj} (h1 : a ≠ L) (h2 : g.get? a = none) (h3 : h.get? a = some o) (h4 : a ≠ d) : (a, o) ∈ rest g h L d :=
  List.mem_filter.mpr ⟨mem_allNews h1 h2 h3, decide_eq_true h4⟩
theorem news_all {g h : Heap} {L : Addr} : News g L h (allNews g h L) := fun p hp => let ⟨a, b, c⟩ := of_mem_allNews hp; ⟨c, a, b⟩
theorem news_at {g h : Heap} {L d : Addr} {o : Obj} (h1 : d ≠ L) (h2 : g.get? d = none) (h3 : h.get? d = some o) : News g L h ((d, o) :: rest g h L d) := fun p hp => by
  rcases List.mem_cons.mp hp with rfl | hp
  · exact ⟨h3, h1, h2⟩
  · exact news_all p (List.mem_filter.mp hp).1
/-- behind a rule that changed d alone: all else but the frame is kept -/
theorem kept_of_news {g h h' : Heap} {L d : Addr} {m : Str → Option Value} (k : ∀ b o, g.get? b = some o → h.get? b = some o) (F : Fr g L h' m) (N : News g L h' (rest g h L d)) :
    ∀ b o, b ≠ L → b ≠ d → h.get? b = some o → h'.get? b = some o := fun b o h1 h2 e => by
  cases q : g.get? b with
  | some u =>
    have := k b u q
    rw [e] at this; cases this
    exact F.keep b _ q
  | none => exact (N (b, o) (mem_rest h1 q e h2)).1
end L2

namespace L2
open PySem PySem.Spec PyProof.Rows

/-- the module's facts, over the base: the heap at the law's entry without what is tracked there -/
structure Mod (K : PySem.W.Frag) (mg : Str → Option Value) (base : Heap) : Prop where
  kin : K.In base
  glob : base.Ns mainGlobals mg
  blt : ∃ mb, base.Ns builtinsNs mb ∧ ∀ x : Str, x ≠ "__name__" → mb x = bootBuiltins x
  nolimit : base.NoLimit

/-- the context: a def's body (or a comprehension's block) running. base: fixed through the whole law; s₀, H₀: the entry; outer: the frames whose slots others may change (a def's callers); stack: all frames that run;
   ex: iterators that were made ahead of the entry and are walked here (a comprehension's); fn: the names whose cells were made at the entry (a def: all; a comprehension's block: its own); calm: not within an except suite; pn: pins that every state bears; xe: what is wanted of an exception that leaves the code -/
structure Cx where
  prog : Program
  w : World
  K : PySem.W.Frag
  mg : Str → Option Value
  base : Heap
  A : Around
  N : List Str
  s₀ : Shared
  H₀ : Hp
  env : Env
  outer : List Env
  stack : List Env
  ex : List Addr
  fn : Str → Bool
  calm : Bool
  pn : List (Addr × Obj)
  xe : Value → Shared → Prop
/-- the callers' frames -/
def frs (l : List Env) : List Addr := l.filterMap (·.frame)
abbrev Cx.fs (X : Cx) : List Addr := frs X.outer

def Vis (sc : Scope) (x : Str) : Prop := sc.names.lookup x = some .local ∨ sc.names.lookup x = some .cell ∨ sc.names.lookup x = some .free
def Loc (sc : Scope) (x : Str) : Prop := sc.names.lookup x = some .local ∨ sc.names.lookup x = some .cell
def Look (env : Env) (h : Heap) (m : Str → Option Value) (x : Str) (u : Value) : Prop :=
  (env.kindOf x = some .local ∧ m x = some u) ∨ ((env.kindOf x = some .cell ∨ env.kindOf x = some .free) ∧ ∃ c, env.cells.lookup x = some c ∧ h.IsCell c (some u))

structure Cx.Ok (X : Cx) : Prop where
  mod : Mod X.K X.mg X.base
  kind : X.env.scope.kind = .function
  glob : X.env.globals = mainGlobals
  blt : X.env.builtins = builtinsNs
  above : X.s₀.heap.objs.size ≤ X.env.locals
  inj : ∀ x y c, X.env.cells.lookup x = some c → X.env.cells.lookup y = some c → x = y
  has : ∀ x, (X.env.kindOf x = some .cell ∨ X.env.kindOf x = some .free) → ∃ c, X.env.cells.lookup x = some c
  cab : ∀ x c, X.fn x = true → X.env.cells.lookup x = some c → X.s₀.heap.objs.size ≤ c
  hd : X.calm = true → X.A.handled = none
  frames : X.A.frames = some X.stack
  stk : X.stack = X.outer ∨ (X.stack = X.env :: X.outer ∧ X.env.frame = some X.env.locals)
  exf : ∀ b ∈ X.ex, b ≠ X.env.locals ∧ ∀ x c, X.env.cells.lookup x = some c → c ≠ b
  bs : ∀ b o, X.base.get? b = some o → X.s₀.heap.get? b = some o ∧ X.H₀ b = none
  bsz : X.base.objs.size ≤ X.s₀.heap.objs.size
  noex : ∀ b o, X.base.get? b = some o → b ∉ X.ex
  exfs : ∀ b ∈ X.ex, b ∉ X.fs
  funs : X.s₀.heap.FunFrames X.base X.outer
  frf : ∀ b ∈ X.fs, X.H₀ b = none

structure Inv (X : Cx) (pins : List (Addr × Obj)) (σ : List (Option V)) (H : Hp) (s : Shared) : Prop where
  ok : X.Ok
  os : s.os = X.s₀.os
  bare : AllBare s.gens
  base : Un X.fs X.ex X.H₀ H X.s₀.heap s.heap
  loc : ∃ m, s.heap.Ns X.env.locals m ∧ ∀ (i : Nat) (x : Str) (v : V), X.N[i]? = some x → σ[i]? = some (some v) → Vis X.env.scope x → ∃ u, RelV v u ∧ Look X.env s.heap m x u
  cell : ∀ x c, X.env.cells.lookup x = some c → ∃ v, s.heap.IsCell c v
  free : H X.env.locals = none
  freeC : ∀ x c, X.env.cells.lookup x = some c → H c = none
  pin : ∀ p ∈ X.pn ++ pins, s.heap.get? p.1 = some p.2 ∧ H p.1 = none ∧ p.1 ≠ X.env.locals ∧ p.1 ∉ X.fs ∧ ∀ v, p.2.data ≠ .cell v
  hok : HOk X.prog X.w H s.heap
  len : σ.length = X.N.length

section
variable {X : Cx} {pins : List (Addr × Obj)} {σ : List (Option V)} {H H' : Hp} {s : Shared} {h' : Heap}

theorem Cx.Ok.nofr (ok : X.Ok) {b : Addr} {o : Obj} (e : X.base.get? b = some o) : b ∉ X.fs := fun hb => by
  have := (ok.funs.mem hb).1
  rw [e] at this; cases this
theorem Inv.bs (I : Inv X pins σ H s) : ∀ b o, X.base.get? b = some o → s.heap.get? b = some o ∧ H b = none := fun b o e =>
  ⟨I.base.keep b o (I.ok.bs b o e).1 (I.ok.bs b o e).2 (I.ok.nofr e) (I.ok.noex b o e), I.base.free b o (I.ok.bs b o e).1 (I.ok.bs b o e).2 (I.ok.noex b o e)⟩
theorem Inv.bk (I : Inv X pins σ H s) : ∀ b o, X.base.get? b = some o → s.heap.get? b = some o := fun b o e => (I.bs b o e).1
theorem Inv.mod (I : Inv X pins σ H s) : Mod X.K X.mg X.base := I.ok.mod
theorem Inv.kIn (I : Inv X pins σ H s) : X.K.In s.heap := I.ok.mod.kin.keeps I.bk
theorem Inv.nolimit (I : Inv X pins σ H s) : s.heap.NoLimit := I.ok.mod.nolimit.keeps I.bk
/-- the frame over the base: for OpenK's rules (K.In X.base is I.mod.kin) -/
theorem Inv.fr (I : Inv X pins σ H s) : ∃ m, Fr X.base X.env.locals s.heap m :=
  let ⟨m, hn, _⟩ := I.loc
  ⟨m, hn, I.bk, Nat.le_trans I.ok.bsz I.ok.above⟩
theorem Inv.lt (I : Inv X pins σ H s) : X.env.locals < s.heap.objs.size := let ⟨_, hn, _⟩ := I.loc; hn.lt
theorem Inv.sz (I : Inv X pins σ H s) : X.s₀.heap.objs.size ≤ s.heap.objs.size := Nat.le_trans I.ok.above (Nat.le_of_lt I.lt)
theorem Inv.nofs (I : Inv X pins σ H s) {a : Addr} (h : s.heap.objs.size ≤ a) : a ∉ X.fs := fun hb => by
  obtain ⟨_, o, ho, _⟩ := I.ok.funs.mem hb
  exact absurd (Nat.lt_of_lt_of_le (Heap.lt_size ho) (Nat.le_trans I.sz h)) (Nat.lt_irrefl _)
theorem Inv.cne (I : Inv X pins σ H s) : ∀ x c, X.env.cells.lookup x = some c → c ≠ X.env.locals := fun x c e z => by
  obtain ⟨v, o, ho, hd⟩ := I.cell x c e
  obtain ⟨m, ⟨o', es, ep, ho', hd', _⟩, _⟩ := I.loc
  rw [z, ho'] at ho; cases ho; rw [hd'] at hd; cases hd
theorem Inv.funs (I : Inv X pins σ H s) : s.heap.FunFrames X.base X.outer := by
  have all : ∀ (l : List Env), (∀ b ∈ frs l, b ∈ X.fs) → X.s₀.heap.FunFrames X.base l → s.heap.FunFrames X.base l := by
    intro l
    induction l with
    | nil => intro _ _; trivial
    | cons env r ih =>
      intro hs hl
      obtain ⟨hk, ⟨L, o, hf, hn, ho, hd⟩, hr⟩ := hl
      have hL : L ∈ X.fs := hs L (by unfold frs; rw [List.filterMap_cons, hf]; exact List.mem_cons_self)
      obtain ⟨sl, e⟩ := I.base.slot L o ho (I.ok.frf L hL) hL fun z => I.ok.exfs L z hL
      exact ⟨hk, ⟨L, _, hf, hn, e, hd⟩, ih (fun b hb => hs b (by unfold frs; rw [List.filterMap_cons, hf]; exact List.mem_cons_of_mem _ hb)) hr⟩
  exact all X.outer (fun _ hb => hb) I.ok.funs

/-- the frames that run, for a call -/
theorem Inv.stack (I : Inv X pins σ H s) : s.heap.FunFrames X.base X.stack := by
  rcases I.ok.stk with e | ⟨e, hf⟩
  · rw [e]; exact I.funs
  · rw [e]
    obtain ⟨m, hn, _⟩ := I.loc
    refine .cons (by rw [I.ok.kind]; decide) hf hn ?_ I.funs
    exact Heap.get?_none_of_le (Nat.le_trans I.ok.bsz I.ok.above)
theorem Inv.stkSub (I : Inv X pins σ H s) : ∀ b ∈ frs X.stack, b ∈ X.env.locals :: X.fs := fun b hb => by
  rcases I.ok.stk with e | ⟨e, hf⟩
  · rw [e] at hb; exact List.mem_cons_of_mem _ hb
  · rw [e] at hb
    unfold frs at hb
    rw [List.filterMap_cons, hf] at hb
    exact hb
theorem Inv.stkFree (I : Inv X pins σ H s) : ∀ b ∈ frs X.stack, H b = none := fun b hb => by
  rcases List.mem_cons.mp (I.stkSub b hb) with e | hb
  · rw [e]; exact I.free
  · obtain ⟨_, o, ho, _⟩ := I.ok.funs.mem hb
    exact I.base.free b o ho (I.ok.frf b hb) fun z => I.ok.exfs b z hb

/-- THE STEP: the untracked objects but the frame and the records at ch are kept (the callers' frames up to slots), the frame's map is kept, the new abstract heap is held -/
theorem Inv.step {g' : Array GenState} {t' : Nat} {d' : Drawn} {ch : List Addr} (I : Inv X pins σ H s)
    (hch : ∀ b ∈ ch, (b ∈ X.ex ∨ X.s₀.heap.objs.size ≤ b) ∧ b ≠ X.env.locals ∧ (∀ x c, X.env.cells.lookup x = some c → c ≠ b) ∧ ∀ p ∈ X.pn ++ pins, p.1 ≠ b)
    (keep : ∀ b o, b ≠ X.env.locals → b ∉ X.fs → b ∉ ch → s.heap.get? b = some o → H b = none → h'.get? b = some o)
    (slot : ∀ b o, b ≠ X.env.locals → b ∈ X.fs → b ∉ ch → s.heap.get? b = some o → H b = none → ∃ sl, h'.get? b = some { o with slots := sl }) (free : ∀ b o, b ∉ ch → s.heap.get? b = some o → H b = none → H' b = none)
    (there : ∀ b o, b ∉ ch → s.heap.get? b = some o → ∃ o', h'.get? b = some o')
    (tups : ∀ b xs, H b = some (.tup xs) → H' b = some (.tup xs)) (frzs : ∀ b o u, H b = some (.frz o u) → H' b = some (.frz o u)) (tbls : ∀ b ps, H b = some (.tbl ps) → ∃ more, H' b = some (.tbl (ps ++ more)))
    (ns : ∀ m, s.heap.Ns X.env.locals m → h'.Ns X.env.locals m) (hok : HOk X.prog X.w H' h') (hg : AllBare g') :
    Inv X pins σ H' { s with heap := h', gens := g', drawn := d', toks := t' } := by
  have neL : ∀ b o, X.s₀.heap.get? b = some o → b ≠ X.env.locals := fun b o e => Nat.ne_of_lt (Nat.lt_of_lt_of_le (Heap.lt_size e) I.ok.above)
  have neC : ∀ b o, X.s₀.heap.get? b = some o → b ∉ X.ex → b ∉ ch := fun b o e hx hb => by
    rcases (hch b hb).1 with z | z
    · exact hx z
    · exact absurd (Nat.lt_of_lt_of_le (Heap.lt_size e) z) (Nat.lt_irrefl _)
  have cellK : ∀ x c, X.env.cells.lookup x = some c → ∀ v, s.heap.IsCell c v → h'.IsCell c v := fun x c e v ⟨o, ho, hd⟩ => by
    have nch : c ∉ ch := fun z => (hch c z).2.2.1 x c e rfl
    by_cases hc : c ∈ X.fs
    · obtain ⟨sl, q⟩ := slot c o (I.cne x c e) hc nch ho (I.freeC x c e)
      exact ⟨_, q, hd⟩
    · exact ⟨o, keep c o (I.cne x c e) hc nch ho (I.freeC x c e), hd⟩
  refine ⟨I.ok, I.os, hg, ⟨fun b o e n hb hx => ?_, fun b o e n hb hx => ?_, fun b o e n hx => ?_, fun b o e hx => ?_, fun b xs e => tups b xs (I.base.tups b xs e), fun b o xs e => frzs b o xs (I.base.frzs b o xs e), fun b ps e => ?_⟩, ?_, fun x c e => ?_, ?_, fun x c e => ?_, fun p hp => ?_, hok, I.len⟩
  · exact keep b o (neL b o e) hb (neC b o e hx) (I.base.keep b o e n hb hx) (I.base.free b o e n hx)
  · obtain ⟨sl, e1⟩ := I.base.slot b o e n hb hx
    obtain ⟨sl', e2⟩ := slot b _ (neL b o e) hb (neC b o e hx) e1 (I.base.free b o e n hx)
    exact ⟨sl', e2⟩
  · obtain ⟨o', e1⟩ := I.base.there b o e hx
    exact free b o' (neC b o e hx) e1 (I.base.free b o e n hx)
  · obtain ⟨o', e1⟩ := I.base.there b o e hx
    exact there b o' (neC b o e hx) e1
  · obtain ⟨m1, e1⟩ := I.base.tbls b ps e
    obtain ⟨m2, e2⟩ := tbls b _ e1
    exact ⟨m1 ++ m2, by rw [e2, Array.append_assoc]⟩
  · obtain ⟨m, hn, hl⟩ := I.loc
    refine ⟨m, ns m hn, fun i x v e1 e2 e3 => ?_⟩
    obtain ⟨u, r, l⟩ := hl i x v e1 e2 e3
    refine ⟨u, r, ?_⟩
    rcases l with l | ⟨k, c, e, z⟩
    · exact .inl l
    · exact .inr ⟨k, c, e, cellK x c e _ z⟩
  · obtain ⟨v, z⟩ := I.cell x c e
    exact ⟨v, cellK x c e v z⟩
  · obtain ⟨m, ⟨o, _, _, ho, _⟩, _⟩ := I.loc
    exact free _ o (fun z => (hch _ z).2.1 rfl) ho I.free
  · obtain ⟨v, o, ho, hd⟩ := I.cell x c e
    exact free c o (fun z => (hch c z).2.2.1 x c e rfl) ho (I.freeC x c e)
  · obtain ⟨e, n, ne, nf, d⟩ := I.pin p hp
    have nch : p.1 ∉ ch := fun z => (hch p.1 z).2.2.2 p hp rfl
    exact ⟨keep p.1 p.2 ne nf nch e n, free p.1 p.2 nch e n, ne, nf, d⟩
/-- .. where the frame's own object is kept too -/
theorem Inv.un {t' : Nat} (I : Inv X pins σ H s) (u : Un X.fs [] H H' s.heap h') (hok : HOk X.prog X.w H' h') : Inv X pins σ H' { s with heap := h', toks := t' } := by
  obtain ⟨m, ⟨o, es, ep, ho, r⟩, _⟩ := id I.loc
  obtain ⟨sl, hL⟩ := u.any ho I.free (by simp)
  exact I.step (g' := s.gens) (d' := s.drawn) (ch := []) (fun _ z => nomatch z) (fun b o _ hb _ e n => u.keep b o e n hb (by simp)) (fun b o _ hb _ e n => u.slot b o e n hb (by simp)) (fun b o _ e n => u.free b o e n (by simp)) (fun b o _ e => u.there b o e (by simp)) u.tups u.frzs u.tbls (fun m' hm => by
    obtain ⟨o', es', ep', ho', r'⟩ := hm
    rw [ho] at ho'; cases ho'
    exact ⟨_, es', ep', hL, r'⟩) hok I.bare
/-- behind a call (or a comprehension's block): the slots of this frame may have changed too, the records at ch may have turned -/
theorem Inv.call {g' : Array GenState} {t' : Nat} {d' : Drawn} {ch : List Addr} (I : Inv X pins σ H s) (u : Un (frs X.stack) ch H H' s.heap h') (hok : HOk X.prog X.w H' h') (hg : AllBare g')
    (hch : ∀ b ∈ ch, (b ∈ X.ex ∨ X.s₀.heap.objs.size ≤ b) ∧ b ≠ X.env.locals ∧ (∀ x c, X.env.cells.lookup x = some c → c ≠ b) ∧ ∀ p ∈ X.pn ++ pins, p.1 ≠ b) :
    Inv X pins σ H' { s with heap := h', gens := g', drawn := d', toks := t' } := by
  obtain ⟨m, ⟨o, es, ep, ho, r⟩, _⟩ := id I.loc
  obtain ⟨sl, hL⟩ := u.any ho I.free fun z => (hch _ z).2.1 rfl
  exact I.step (ch := ch) hch (fun b o hL hb hc e n => u.keep b o e n (fun z => (List.mem_cons.mp (I.stkSub b z)).elim hL hb) hc) (fun b o _ _ hc e n => u.any e n hc) (fun b o hc e n => u.free b o e n hc) (fun b o hc e => u.there b o e hc) u.tups u.frzs u.tbls (fun m' hm => by
    obtain ⟨o', es', ep', ho', r'⟩ := hm
    rw [ho] at ho'; cases ho'
    exact ⟨_, es', ep', hL, r'⟩) hok hg
/-- an untracked record of ours (an iterator) has turned -/
theorem Inv.turned {t' : Nat} {it : Addr} (I : Inv X pins σ H s) (k : ∀ b o, b ≠ it → s.heap.get? b = some o → h'.get? b = some o) (hn : H it = none) (hL : it ≠ X.env.locals)
    (h1 : it ∈ X.ex ∨ X.s₀.heap.objs.size ≤ it) (h2 : ∀ x c, X.env.cells.lookup x = some c → c ≠ it) (h3 : ∀ p ∈ X.pn ++ pins, p.1 ≠ it) : Inv X pins σ H { s with heap := h', toks := t' } := by
  have nit : ∀ b u, H b = some u → b ≠ it := fun b u e z => by rw [z, hn] at e; cases e
  refine I.step (g' := s.gens) (d' := s.drawn) (ch := [it]) (fun b hb => ?_) (fun b o _ _ hc e _ => k b o (fun z => hc (by simp [z])) e) (fun b o _ _ hc e _ => ⟨o.slots, k b o (fun z => hc (by simp [z])) e⟩) (fun _ _ _ _ n => n)
    (fun b o hc e => ⟨o, k b o (fun z => hc (by simp [z])) e⟩) (fun _ _ e => e) (fun _ _ _ e => e) (fun b ps e => ⟨#[], by rw [e]; simp⟩) (fun m hm => ?_) (fun b u e => ?_) I.bare
  · have e : b = it := by simpa using hb
    subst e
    exact ⟨h1, hL, h2, h3⟩
  · obtain ⟨o, es, ep, ho, r⟩ := hm
    exact ⟨o, es, ep, k _ o (Ne.symm hL) ho, r⟩
  · refine (I.hok b u e).stay (fun c v hc q => k c v ?_ q) (fun _ q => q) fun _ _ q => q
    rcases hc with z | z
    · rw [z]; exact nit b u e
    · exact nit c _ z
theorem Inv.tok (I : Inv X pins σ H s) (t : Nat) : Inv X pins σ H { s with toks := t } := I.un (h' := s.heap) (t' := t) Un.refl I.hok
/-- all objects kept -/
theorem Inv.kept {t' : Nat} (I : Inv X pins σ H s) (k : ∀ b u, s.heap.get? b = some u → h'.get? b = some u) : Inv X pins σ H { s with heap := h', toks := t' } := I.un (Un.kept k) (I.hok.kept k)
/-- a new object laid and tracked -/
theorem Inv.laid {a : Addr} {o : HO} {t' : Nat} (I : Inv X pins σ H s) (k : ∀ b u, s.heap.get? b = some u → h'.get? b = some u) (hp : s.heap.objs.size ≤ a) (new : ObjOk X.prog X.w (upd H a o) h' a o) :
    Inv X pins σ (upd H a o) { s with heap := h', toks := t' } := I.un (Un.laid k hp (I.hok.fresh hp)) (I.hok.laid k hp new)
/-- an object written -/
theorem Inv.write {x e : Addr} {o : HO} {t' : Nat} (I : Inv X pins σ H s) (mu : Mut (H x)) (he : e = x ∨ H e = some (.own x)) (k : ∀ b u, b ≠ e → s.heap.get? b = some u → h'.get? b = some u) (heo : ∃ u, h'.get? e = some u)
    (new : ObjOk X.prog X.w (upd H x o) h' x o) : Inv X pins σ (upd H x o) { s with heap := h', toks := t' } := I.un (Un.write mu he k heo) (I.hok.write mu he k heo new)
/-- forgetting slots, pins -/
theorem Inv.weak {σ' : List (Option V)} (I : Inv X pins σ H s) (hl : σ'.length = σ.length) (w : ∀ (i : Nat) v, σ'[i]? = some (some v) → σ[i]? = some (some v)) : Inv X pins σ' H s :=
  ⟨I.ok, I.os, I.bare, I.base, let ⟨m, hn, hl'⟩ := I.loc; ⟨m, hn, fun i x v e1 e2 e3 => hl' i x v e1 (w i v e2) e3⟩, I.cell, I.free, I.freeC, I.pin, I.hok, hl.trans I.len⟩
theorem Inv.pins_of {pins' : List (Addr × Obj)} (I : Inv X pins σ H s) (h : ∀ p ∈ pins', s.heap.get? p.1 = some p.2 ∧ H p.1 = none ∧ p.1 ≠ X.env.locals ∧ p.1 ∉ X.fs ∧ ∀ v, p.2.data ≠ .cell v) : Inv X pins' σ H s :=
  ⟨I.ok, I.os, I.bare, I.base, I.loc, I.cell, I.free, I.freeC, fun p hp => (List.mem_append.mp hp).elim (fun z => I.pin p (List.mem_append_left _ z)) (h p), I.hok, I.len⟩

theorem nodup_ix {N : List Str} (hN : N.Nodup) {i j : Nat} {x : Str} (a : N[i]? = some x) (b : N[j]? = some x) : i = j := by
  obtain ⟨h1, e1⟩ := List.getElem?_eq_some_iff.mp a
  obtain ⟨h2, e2⟩ := List.getElem?_eq_some_iff.mp b
  exact (List.getElem_inj hN).mp (e1.trans e2.symm)

/-- a name is stored; what changed -/
theorem store_ok2 {M : Model} {A : Around} {E : Value → Shared → Prop} {i : Nat} {x : Str} {v : V} {u : Value} {Q : Unit → Shared → Prop} (I : Inv X pins σ H s) (hN : X.N.Nodup) (hi : X.N[i]? = some x) (hx : Loc X.env.scope x) (r : RelV v u)
    (h : ∀ s', Inv X pins (σ.set i (some v)) H s' → (∃ a, Heap.SameBut a s.heap s'.heap ∧ (a = X.env.locals ∨ X.env.cells.lookup x = some a)) → Q () s') (hf : X.fn x = true ∨ X.env.scope.names.lookup x = some .local := by first | exact .inl rfl | exact .inr rfl | assumption) : wpAny M A (storeName X.env x u) Q E s := by
  obtain ⟨m, hn, hl⟩ := id I.loc
  have hcls : (X.env.scope.kind == .class || (X.env.scope.kind == .module && X.env.locals != X.env.globals)) = false := by rw [I.ok.kind]; rfl
  have hiσ : i < σ.length := by rw [I.len]; exact (List.getElem?_eq_some_iff.mp hi).1
  have cne := I.cne
  have tracked : ∀ {a : Addr} {h' : Heap}, (∃ o, s.heap.get? a = some o ∧ H a = none) → Heap.SameBut a s.heap h' → HOk X.prog X.w H h' := fun {a h'} ha hs b ob e => by
    obtain ⟨_, _, hfree⟩ := ha
    refine (I.hok b ob e).stay (fun c w' hc q => (hs.2 c ?_).trans q) (fun _ q => q) fun _ _ q => q
    rintro rfl
    rcases hc with rfl | hc
    · rw [hfree] at e; cases e
    · rw [hfree] at hc; cases hc
  rcases hx with hk | hk
  · refine wpAny_storeName_local hk hn (fun h' hn' hs => ?_) hcls
    obtain ⟨oL, _, _, hoL, _⟩ := id hn
    refine h _ ⟨I.ok, I.os, I.bare, ⟨fun b o e n hb hx => ?_, fun b o e n hb hx => ?_, I.base.free, fun b o e hx => ?_, I.base.tups, I.base.frzs, I.base.tbls⟩, ⟨_, hn', fun j y v' e1 e2 e3 => ?_⟩, fun y c e => ?_, I.free, I.freeC, fun p hp => ?_, tracked ⟨oL, hoL, I.free⟩ hs, by simpa using I.len⟩ ⟨_, hs, .inl rfl⟩
    · exact (hs.2 b (Nat.ne_of_lt (Nat.lt_of_lt_of_le (Heap.lt_size e) I.ok.above))).trans (I.base.keep b o e n hb hx)
    · obtain ⟨sl, e1⟩ := I.base.slot b o e n hb hx
      exact ⟨sl, (hs.2 b (Nat.ne_of_lt (Nat.lt_of_lt_of_le (Heap.lt_size e) I.ok.above))).trans e1⟩
    · obtain ⟨o', e1⟩ := I.base.there b o e hx
      exact ⟨o', (hs.2 b (Nat.ne_of_lt (Nat.lt_of_lt_of_le (Heap.lt_size e) I.ok.above))).trans e1⟩
    · by_cases hj : j = i
      · subst hj
        rw [hi] at e1; cases e1
        rw [List.getElem?_set_self hiσ] at e2
        cases e2
        exact ⟨u, r, .inl ⟨hk, by simp⟩⟩
      · rw [List.getElem?_set_ne (Ne.symm hj)] at e2
        obtain ⟨u', r', q⟩ := hl j y v' e1 e2 e3
        refine ⟨u', r', ?_⟩
        rcases q with ⟨k, e⟩ | ⟨k, c, e, z⟩
        · refine .inl ⟨k, ?_⟩
          have : y ≠ x := fun e => hj (nodup_ix hN e1 (e ▸ hi))
          simp [this, e]
        · exact .inr ⟨k, c, e, z.sameBut hs (cne y c e)⟩
    · obtain ⟨w', z⟩ := I.cell y c e
      exact ⟨w', z.sameBut hs (cne y c e)⟩
    · obtain ⟨e, n, ne, nf, d⟩ := I.pin p hp
      exact ⟨(hs.2 p.1 ne).trans e, n, ne, nf, d⟩
  · have hfn : X.fn x = true := by
      rcases hf with z | z
      · exact z
      · rw [z] at hk; cases hk
    obtain ⟨c, hc⟩ := I.ok.has x (.inl hk)
    obtain ⟨w', z⟩ := I.cell x c hc
    refine wpAny_storeName_cell I.ok.kind hk hc z (fun h' hc' hs => ?_)
    obtain ⟨oc, hoc, hocd⟩ := id z
    refine h { s with heap := h' } ⟨I.ok, I.os, I.bare, ⟨fun b o e n hb hx => ?_, fun b o e n hb hx => ?_, I.base.free, fun b o e hx => ?_, I.base.tups, I.base.frzs, I.base.tbls⟩, ⟨m, hn.sameBut hs (Ne.symm (cne x c hc)), fun j y v' e1 e2 e3 => ?_⟩, fun y c' e => ?_, I.free, I.freeC, fun p hp => ?_, tracked ⟨oc, hoc, I.freeC x c hc⟩ hs, by simpa using I.len⟩ ⟨c, hs, .inr hc⟩
    · exact (hs.2 b (Nat.ne_of_lt (Nat.lt_of_lt_of_le (Heap.lt_size e) (I.ok.cab x c hfn hc)))).trans (I.base.keep b o e n hb hx)
    · obtain ⟨sl, e1⟩ := I.base.slot b o e n hb hx
      exact ⟨sl, (hs.2 b (Nat.ne_of_lt (Nat.lt_of_lt_of_le (Heap.lt_size e) (I.ok.cab x c hfn hc)))).trans e1⟩
    · obtain ⟨o', e1⟩ := I.base.there b o e hx
      exact ⟨o', (hs.2 b (Nat.ne_of_lt (Nat.lt_of_lt_of_le (Heap.lt_size e) (I.ok.cab x c hfn hc)))).trans e1⟩
    · by_cases hj : j = i
      · subst hj
        rw [hi] at e1; cases e1
        rw [List.getElem?_set_self hiσ] at e2
        cases e2
        exact ⟨u, r, .inr ⟨.inl hk, c, hc, hc'⟩⟩
      · rw [List.getElem?_set_ne (Ne.symm hj)] at e2
        obtain ⟨u', r', q⟩ := hl j y v' e1 e2 e3
        refine ⟨u', r', ?_⟩
        rcases q with q | ⟨k, c', e, z'⟩
        · exact .inl q
        · refine .inr ⟨k, c', e, z'.sameBut hs ?_⟩
          rintro rfl
          exact hj (nodup_ix hN e1 (I.ok.inj _ _ _ e hc ▸ hi))
    · by_cases hcc : c' = c
      · subst hcc; exact ⟨_, hc'⟩
      · obtain ⟨w2, z2⟩ := I.cell y c' e
        exact ⟨w2, z2.sameBut hs hcc⟩
    · obtain ⟨e, n, ne, nf, d⟩ := I.pin p hp
      refine ⟨(hs.2 p.1 ?_).trans e, n, ne, nf, d⟩
      intro q
      rw [q, hoc] at e
      have q' : oc = p.2 := Option.some.inj e
      exact d w' (by rw [← q']; exact hocd)
theorem store_ok {M : Model} {A : Around} {E : Value → Shared → Prop} {i : Nat} {x : Str} {v : V} {u : Value} {Q : Unit → Shared → Prop} (I : Inv X pins σ H s) (hN : X.N.Nodup) (hi : X.N[i]? = some x) (hx : Loc X.env.scope x) (r : RelV v u)
    (h : ∀ s', Inv X pins (σ.set i (some v)) H s' → Q () s') (hf : X.fn x = true ∨ X.env.scope.names.lookup x = some .local := by first | exact .inl rfl | exact .inr rfl | assumption) : wpAny M A (storeName X.env x u) Q E s :=
  store_ok2 I hN hi hx r (fun s' I' _ => h s' I') hf
/-- behind a call or a block, the state as it is -/
theorem Inv.call' {s' : Shared} {ch : List Addr} (I : Inv X pins σ H s) (ho : s'.os = s.os) (u : Un (frs X.stack) ch H H' s.heap s'.heap) (hok : HOk X.prog X.w H' s'.heap) (hg : AllBare s'.gens)
    (hch : ∀ b ∈ ch, (b ∈ X.ex ∨ X.s₀.heap.objs.size ≤ b) ∧ b ≠ X.env.locals ∧ (∀ x c, X.env.cells.lookup x = some c → c ≠ b) ∧ ∀ p ∈ X.pn ++ pins, p.1 ≠ b) : Inv X pins σ H' s' := by
  obtain ⟨h', g', d', t', o'⟩ := s'
  have e : o' = s.os := ho
  subst e
  exact I.call (g' := g') (t' := t') (d' := d') u hok hg hch
end

/-! ### the judgements -/
/-- an exception: its class, its own dict's address (where it has one), the abstract heap behind it -/
abbrev XK := Value → Option Addr → Hp → Prop
abbrev St := List (Option V)
abbrev VK := V → Hp → Prop
/-- an expression's reading; a test's; an argument list's -/
abbrev TE := St → Hp → VK → Prop
abbrev TT := St → Hp → (Bool → Hp → Prop) → Prop
abbrev TA := St → Hp → (List V → Hp → Prop) → Prop
/-- what is wanted behind a statement -/
structure Ends where
  nx : St → Hp → Prop
  rt : VK
  bk : St → Hp → Prop := fun _ _ => False
  ct : St → Hp → Prop := fun _ _ => False
abbrev TS := Ends → St → Hp → Prop

def EP (X : Cx) (pins : List (Addr × Obj)) (σ : St) (Q : VK) (u : Value) (s' : Shared) : Prop := ∃ v H', Inv X pins σ H' s' ∧ RelV v u ∧ Q v H'
def TP (X : Cx) (pins : List (Addr × Obj)) (σ : St) (Q : Bool → Hp → Prop) (b : Bool) (s' : Shared) : Prop := ∃ H', Inv X pins σ H' s' ∧ Q b H'
def AP (X : Cx) (pins : List (Addr × Obj)) (σ : St) (Q : List V → Hp → Prop) (us : List Value) (s' : Shared) : Prop := ∃ vs H', Inv X pins σ H' s' ∧ Vals vs us ∧ Q vs H'
def SP (X : Cx) (pins : List (Addr × Obj)) (D : Ends) (f : Flow) (s' : Shared) : Prop :=
  match f with
  | .next => ∃ σ' H', Inv X pins σ' H' s' ∧ D.nx σ' H'
  | .brk => ∃ σ' H', Inv X pins σ' H' s' ∧ D.bk σ' H'
  | .cont => ∃ σ' H', Inv X pins σ' H' s' ∧ D.ct σ' H'
  | .ret u => ∃ v σ' H', Inv X pins σ' H' s' ∧ RelV v u ∧ D.rt v H'

def PE (X : Cx) (e : Expr) (t : TE) : Prop :=
  ∀ (pins : List (Addr × Obj)) (s : Shared) (σ : St) (H : Hp) (Q : VK), Inv X pins σ H s → t σ H Q → wpAny (model X.prog X.w) X.A (eval e X.env) (EP X pins σ Q) X.xe s
def PT (X : Cx) (e : Expr) (t : TT) : Prop :=
  ∀ (pins : List (Addr × Obj)) (s : Shared) (σ : St) (H : Hp) (Q : Bool → Hp → Prop), Inv X pins σ H s → t σ H Q → wpAny (model X.prog X.w) X.A (isTrue e X.env (eval e X.env)) (TP X pins σ Q) X.xe s
/-- a test whatever its 'whole' is (and, or) -/
def PW (X : Cx) (e : Expr) (t : TT) : Prop :=
  ∀ (whole : Sem Value) (pins : List (Addr × Obj)) (s : Shared) (σ : St) (H : Hp) (Q : Bool → Hp → Prop), Inv X pins σ H s → t σ H Q → wpAny (model X.prog X.w) X.A (isTrue e X.env whole) (TP X pins σ Q) X.xe s
theorem PW.pt {X : Cx} {e : Expr} {t : TT} (h : PW X e t) : PT X e t := h _
/-- an argument list (no star), from the left -/
def PA (X : Cx) (es : List Expr) (t : TA) : Prop :=
  ∀ (pos : Pos) (pins : List (Addr × Obj)) (s : Shared) (σ : St) (H : Hp) (Q : List V → Hp → Prop), Inv X pins σ H s → t σ H Q → wpAny (model X.prog X.w) X.A (spliced (backTo pos (starEach es X.env))) (AP X pins σ Q) X.xe s
def PS (X : Cx) (st : Stmt) (t : TS) : Prop :=
  ∀ (pins : List (Addr × Obj)) (s : Shared) (σ : St) (H : Hp) (D : Ends), Inv X pins σ H s → t D σ H → wpAny (model X.prog X.w) X.A (exec st X.env) (SP X pins D) X.xe s
def PSs (X : Cx) (st : List Stmt) (t : TS) : Prop :=
  ∀ (pins : List (Addr × Obj)) (s : Shared) (σ : St) (H : Hp) (D : Ends), Inv X pins σ H s → t D σ H → wpAny (model X.prog X.w) X.A (execs st X.env) (SP X pins D) X.xe s
/-- weaken the end -/
theorem thn {α : Type} {t : Sem α} {Q Q' : α → Shared → Prop} {M : Model} {A : Around} {E : Value → Shared → Prop} {s : Shared} (h : wpAny M A t Q E s) (hQ : ∀ a s, Q a s → Q' a s) : wpAny M A t Q' E s := wpAny_mono h hQ fun _ _ x => x
end L2

namespace L2
open PySem PySem.Spec PyProof.Rows
section
variable {X : Cx}

/-- two expressions in a row -/
theorem bin {a b : Expr} {ta tb : TE} (ha : PE X a ta) (hb : PE X b tb) {pins : List (Addr × Obj)} {s : Shared} {σ : St} {H : Hp} {R : V → V → Hp → Prop} (I : Inv X pins σ H s) (h : ta σ H fun x H1 => tb σ H1 fun y H2 => R x y H2)
    {α : Type} {Q : α → Shared → Prop} {f : Value → Value → Sem α}
    (hf : ∀ v u s2 x y H2, Inv X pins σ H2 s2 → RelV x v → RelV y u → R x y H2 → wpAny (model X.prog X.w) X.A (f v u) Q X.xe s2) :
    wpAny (model X.prog X.w) X.A (eval a X.env) (fun v s₁ => wpAny (model X.prog X.w) X.A (eval b X.env) (fun u s₂ => wpAny (model X.prog X.w) X.A (f v u) Q X.xe s₂) X.xe s₁) X.xe s := by
  refine thn (ha pins s σ H _ I h) fun v s1 ⟨x, H1, I1, r1, q1⟩ => ?_
  refine thn (hb pins s1 σ H1 _ I1 q1) fun u s2 ⟨y, H2, I2, r2, q2⟩ => ?_
  exact hf v u s2 x y H2 I2 r1 r2 q2

/-! ### names and constants -/
def tVar (i : Nat) : TE := fun σ H Q => ∃ v, σ[i]? = some (some v) ∧ Q v H
def tC (v : V) : TE := fun _ H Q => Q v H
theorem pe_var {i : Nat} {x : Str} {pos : Pos} (hN : X.N[i]? = some x) (hv : Vis X.env.scope x) (hd : (x == ("__debug__" : Str)) = false := by decide) (hcd : (x == ("__classdict__" : Str)) = false := by decide) : PE X (.Name x pos) (tVar i) := by
  intro pins s σ H Q I h
  obtain ⟨v, e, h⟩ := h
  obtain ⟨m, hn, hl⟩ := I.loc
  obtain ⟨u, r, l⟩ := hl i x v hN e hv
  have fin : EP X pins σ Q u s := ⟨v, H, I, r, h⟩
  rcases l with ⟨hk, hm⟩ | ⟨hk, c, hc, hcell⟩
  · exact wpAny_Name (wpAny_loadName_local I.ok.kind hk hn hm fin) hd
  · rcases hk with hk | hk
    · exact wpAny_Name (wpAny_loadName_cell I.ok.kind hk hc hcell fin) hd
    · exact wpAny_Name (wpAny_loadName_free I.ok.kind hk hc hcell fin hcd) hd
theorem pe_int {i j pos} : PE X (.Constant (.int i) j pos) (tC (.int i)) := fun _ _ _ H _ I h => wpAny_Constant_int ⟨.int i, H, I.tok _, ⟨_, rfl⟩, h⟩
theorem pe_bl {b j pos} : PE X (.Constant (.bool b) j pos) (tC (.bl b)) := fun _ _ _ H _ I h => Constant_bool ⟨.bl b, H, I, rfl, h⟩
theorem pe_non {j pos} : PE X (.Constant .none j pos) (tC .non) := fun _ _ _ H _ I h => Constant_none ⟨.non, H, I, rfl, h⟩
theorem pe_str {x j pos} : PE X (.Constant (.str x) j pos) (tC (.str x)) := fun _ _ _ H _ I h => Calls.Constant_str ⟨.str x, H, I.tok _, ⟨_, rfl⟩, h⟩

/-- a global name of the def -/
def Gl (X : Cx) (x : Str) : Prop := X.env.kindOf x = some .globalImplicit
theorem ld_glob {E : Value → Shared → Prop} {pins : List (Addr × Obj)} {s : Shared} {σ : St} {H : Hp} {x : Str} {u : Value} {pos : Pos} {Q : Value → Shared → Prop} (I : Inv X pins σ H s) (hg : Gl X x) (hm : X.mg x = some u) (h : Q u s)
    (hd : (x == ("__debug__" : Str)) = false := by decide) : wpAny (model X.prog X.w) X.A (eval (.Name x pos) X.env) Q E s :=
  Calls.Name_function_global I.ok.kind hg (Calls.loadGlobal_global (by rw [I.ok.glob]; exact I.mod.glob.keeps I.bk) hm h) hd
theorem ld_blt {E : Value → Shared → Prop} {pins : List (Addr × Obj)} {s : Shared} {σ : St} {H : Hp} {x : Str} {u : Value} {pos : Pos} {Q : Value → Shared → Prop} (I : Inv X pins σ H s) (hg : Gl X x) (hm : X.mg x = none) (hv : bootBuiltins x = some u) (h : Q u s)
    (hn : x ≠ "__name__" := by decide) (hd : (x == ("__debug__" : Str)) = false := by decide) : wpAny (model X.prog X.w) X.A (eval (.Name x pos) X.env) Q E s := by
  obtain ⟨mb, h1, h2⟩ := I.mod.blt
  exact Calls.Name_function_global I.ok.kind hg (Calls.loadGlobal_builtin (by rw [I.ok.glob]; exact I.mod.glob.keeps I.bk) hm (by rw [I.ok.blt]; exact h1.keeps I.bk) ((h2 x hn).trans hv) h) hd
/-- a module's constant, a class, a function, as a value -/
theorem pe_glob {x : Str} {v : V} {u : Value} {pos : Pos} (hg : Gl X x) (hm : X.mg x = some u) (r : RelV v u) (hd : (x == ("__debug__" : Str)) = false := by decide) : PE X (.Name x pos) (tC v) :=
  fun _ _ _ H _ I h => ld_glob I hg hm ⟨v, H, I, r, h⟩ hd
theorem pe_bltn {x : Str} {v : V} {u : Value} {pos : Pos} (hg : Gl X x) (hm : X.mg x = none) (hv : bootBuiltins x = some u) (r : RelV v u) (hn : x ≠ "__name__" := by decide) (hd : (x == ("__debug__" : Str)) = false := by decide) : PE X (.Name x pos) (tC v) :=
  fun _ _ _ H _ I h => ld_blt I hg hm hv ⟨v, H, I, r, h⟩ hn hd

/-! ### arithmetic -/
/-- two ints -/
def t2I (ta tb : TE) (k : Int → Int → Hp → Prop) : St → Hp → Prop := fun σ H => ta σ H fun x H1 => tb σ H1 fun y H2 => ∃ i j, x = .int i ∧ y = .int j ∧ k i j H2
def tAdd (ta tb : TE) : TE := fun σ H Q => t2I ta tb (fun i j H2 => Q (.int (i + j)) H2) σ H
def tSub (ta tb : TE) : TE := fun σ H Q => t2I ta tb (fun i j H2 => Q (.int (i - j)) H2) σ H
/-- the left factor below 2^64 -/
def tMul (ta tb : TE) : TE := fun σ H Q => t2I ta tb (fun i j H2 => (-(2 ^ 64) < i ∧ i < 2 ^ 64) ∧ Q (.int (i * j)) H2) σ H
variable {a b : Expr} {ta tb : TE} {pos : Pos}
theorem pe_add (ha : PE X a ta) (hb : PE X b tb) : PE X (.BinOp a .Add b pos) (tAdd ta tb) := by
  intro pins s σ H Q I h
  refine wpAny_BinOp (bin ha hb I h fun v u s2 x y H2 I2 rx ry q => ?_)
  obtain ⟨i, j, rfl, rfl, q⟩ := q
  obtain ⟨t, rfl⟩ := rx
  obtain ⟨t', rfl⟩ := ry
  exact add_int ⟨.int _, H2, I2.tok _, ⟨_, rfl⟩, q⟩
theorem pe_sub (ha : PE X a ta) (hb : PE X b tb) : PE X (.BinOp a .Sub b pos) (tSub ta tb) := by
  intro pins s σ H Q I h
  refine wpAny_BinOp (bin ha hb I h fun v u s2 x y H2 I2 rx ry q => ?_)
  obtain ⟨i, j, rfl, rfl, q⟩ := q
  obtain ⟨t, rfl⟩ := rx
  obtain ⟨t', rfl⟩ := ry
  exact sub_int ⟨.int _, H2, I2.tok _, ⟨_, rfl⟩, q⟩
theorem pe_mul (ha : PE X a ta) (hb : PE X b tb) : PE X (.BinOp a .Mult b pos) (tMul ta tb) := by
  intro pins s σ H Q I h
  refine wpAny_BinOp (bin ha hb I h fun v u s2 x y H2 I2 rx ry q => ?_)
  obtain ⟨i, j, rfl, rfl, ⟨q1, q2⟩, q⟩ := q
  obtain ⟨t, rfl⟩ := rx
  obtain ⟨t', rfl⟩ := ry
  exact mul_int ⟨.int _, H2, I2.tok _, ⟨_, rfl⟩, q⟩ (.of_left (intBits_le_64 q1 q2))

/-! ### comparisons -/
def PC (X : Cx) (op : CmpOp) (a b : Expr) (t : TE) : Prop :=
  ∀ (pins : List (Addr × Obj)) (s : Shared) (σ : St) (H : Hp) (Q : VK), Inv X pins σ H s → t σ H Q →
    wpAny (model X.prog X.w) X.A (eval a X.env) (fun v s₁ => wpAny (model X.prog X.w) X.A (eval b X.env) (fun u s₂ => wpAny (model X.prog X.w) X.A (compareOp op v u) (EP X pins σ Q) X.xe s₂) X.xe s₁) X.xe s
theorem nobehind (b : Expr) {op : CmpOp} (h : op ≠ .In) (h2 : op ≠ .NotIn) : behindInMarks op b = false := by
  have e1 : (op == CmpOp.In) = false := by cases op <;> first | rfl | exact absurd rfl h
  have e2 : (op == CmpOp.NotIn) = false := by cases op <;> first | rfl | exact absurd rfl h2
  cases b <;> simp [behindInMarks, e1, e2]
def tCmp (p : Int → Int → Bool) (ta tb : TE) : TE := fun σ H Q => t2I ta tb (fun i j H2 => Q (.bl (p i j)) H2) σ H
abbrev tLt : TE → TE → TE := tCmp fun i j => decide (i < j)
abbrev tLe : TE → TE → TE := tCmp fun i j => decide (i ≤ j)
abbrev tGt : TE → TE → TE := tCmp fun i j => decide (j < i)
abbrev tGe : TE → TE → TE := tCmp fun i j => decide (j ≤ i)
abbrev tEqI : TE → TE → TE := tCmp fun i j => decide (i = j)
abbrev tNeI : TE → TE → TE := tCmp fun i j => !decide (i = j)
/-- a comparison of two ints, by its rule -/
theorem pc_int {op : CmpOp} {p : Int → Int → Bool} (ha : PE X a ta) (hb : PE X b tb)
    (rule : ∀ (i j : Int) (t u : Tok) (Q : Value → Shared → Prop) (s : Shared), Q (.bool (p i j)) s → wpAny (model X.prog X.w) X.A (compareOp op (.int i t) (.int j u)) Q X.xe s) : PC X op a b (tCmp p ta tb) := by
  intro pins s σ H Q I h
  refine bin ha hb I h fun v u s2 x y H2 I2 rx ry q => ?_
  obtain ⟨i, j, rfl, rfl, q⟩ := q
  obtain ⟨t, rfl⟩ := rx
  obtain ⟨t', rfl⟩ := ry
  exact rule i j t t' _ s2 ⟨.bl _, H2, I2, rfl, q⟩
theorem pc_lt (ha : PE X a ta) (hb : PE X b tb) : PC X .Lt a b (tLt ta tb) := pc_int ha hb fun _ _ _ _ _ _ h => lt_int h
theorem pc_le (ha : PE X a ta) (hb : PE X b tb) : PC X .LtE a b (tLe ta tb) := pc_int ha hb fun _ _ _ _ _ _ h => le_int h
theorem pc_gt (ha : PE X a ta) (hb : PE X b tb) : PC X .Gt a b (tGt ta tb) := pc_int ha hb fun _ _ _ _ _ _ h => gt_int h
theorem pc_ge (ha : PE X a ta) (hb : PE X b tb) : PC X .GtE a b (tGe ta tb) := pc_int ha hb fun _ _ _ _ _ _ h => ge_int h
theorem pc_eqI (ha : PE X a ta) (hb : PE X b tb) : PC X .Eq a b (tEqI ta tb) := pc_int ha hb fun _ _ _ _ _ _ h => eq_int (by rw [Bool.beq_eq_decide_eq]; exact h)
theorem pc_neI (ha : PE X a ta) (hb : PE X b tb) : PC X .NotEq a b (tNeI ta tb) := pc_int ha hb fun _ _ _ _ _ _ h => ne_int (by rw [bne, Bool.beq_eq_decide_eq]; exact h)
/-- is None -/
def tIsN (ta : TE) : TE := fun σ H Q => ta σ H fun x H1 => Q (.bl (decide (x = .non))) H1
def tNotN (ta : TE) : TE := fun σ H Q => ta σ H fun x H1 => Q (.bl (!decide (x = .non))) H1
theorem RelV.none_iff {x : V} {v : Value} (r : RelV x v) : (v == Value.none) = decide (x = .non) := by
  cases x with
  | non => cases r; rfl
  | bl _ => cases r; rfl
  | int _ => obtain ⟨t, rfl⟩ := r; rfl
  | str _ => obtain ⟨t, rfl⟩ := r; rfl
  | byt _ => obtain ⟨t, rfl⟩ := r; rfl
  | flt _ => obtain ⟨t, rfl⟩ := r; rfl
  | ref _ => cases r; rfl
  | ty _ => cases r; rfl
theorem pc_isN {j pos'} (ha : PE X a ta) : PC X .Is a (.Constant .none j pos') (tIsN ta) := by
  intro pins s σ H Q I h
  refine thn (ha pins s σ H _ I h) fun v s1 ⟨x, H1, I1, r1, q1⟩ => ?_
  exact Constant_none (is_none_gen ⟨.bl _, H1, I1, by rw [r1.none_iff]; rfl, q1⟩)
theorem pc_notN {j pos'} (ha : PE X a ta) : PC X .IsNot a (.Constant .none j pos') (tNotN ta) := by
  intro pins s σ H Q I h
  refine thn (ha pins s σ H _ I h) fun v s1 ⟨x, H1, I1, r1, q1⟩ => ?_
  exact Constant_none (isnot_none_gen ⟨.bl _, H1, I1, by rw [r1.none_iff]; rfl, q1⟩)
/-- a comparison as a value, as a test -/
def tB (t : TE) : TT := fun σ H Q => t σ H fun x H1 => ∃ c, x = .bl c ∧ Q c H1
theorem pe_cmp {op : CmpOp} {t : TE} (h : PC X op a b t) (h1 : behindInMarks op b = false := by first | exact nobehind _ (by decide) (by decide) | rfl) : PE X (.Compare a [op] [b] pos) t := fun pins s σ H Q I hw => wpAny_Compare1 (h pins s σ H Q I hw) h1
theorem pt_cmp {op : CmpOp} {t : TE} (h : PC X op a b t) (h1 : behindInMarks op b = false := by first | exact nobehind _ (by decide) (by decide) | rfl) : PT X (.Compare a [op] [b] pos) (tB t) := by
  intro pins s σ H Q I hw
  refine wpAny_isTrue_Compare1 (thn (h pins s σ H _ I hw) fun v s1 h1 => thn h1 fun u s2 h2 => thn h2 fun c s3 ⟨x, H1, I1, r1, q1⟩ => ?_) h1
  obtain ⟨d, rfl, q⟩ := q1
  cases r1
  exact wpAny_truthy_bool ⟨H1, I1, q⟩
/-- an expression whose value is a bool, as a test -/
theorem pt_val {e : Expr} {t : TE} (h : PE X e t) (he : ∀ whole, isTrue e X.env whole = (do let v ← whole; standAt e.pos; holding [v] (truthy v)) := by intro _; rfl) : PT X e (tB t) := by
  intro pins s σ H Q I hw
  refine isTrue_plain (thn (h pins s σ H _ I hw) fun v s1 ⟨x, H1, I1, r1, q1⟩ => ?_) (he _)
  obtain ⟨d, rfl, q⟩ := q1
  cases r1
  exact wpAny_truthy_bool ⟨H1, I1, q⟩

/-! ### and, or, not -/
variable {tA tB' : TT} {rest : List Expr}
def tAnd (t u : TT) : TT := fun σ H Q => t σ H fun c H1 => if c = true then u σ H1 Q else Q false H1
def tOr (t u : TT) : TT := fun σ H Q => t σ H fun c H1 => if c = true then Q true H1 else u σ H1 Q
def tNot (t : TT) : TT := fun σ H Q => t σ H fun c H1 => Q (!c) H1
theorem pw_and1 (ha : PT X a tA) : PW X (.BoolOp .And [a] pos) tA := by
  intro wh pins s σ H Q I h
  refine isTrue_and (thn (ha pins s σ H Q I h) fun c s1 e => ?_)
  cases c with
  | true => exact isTrue_and_nil e
  | false => exact e
theorem pw_or1 (ha : PT X a tA) : PW X (.BoolOp .Or [a] pos) tA := by
  intro wh pins s σ H Q I h
  refine isTrue_or (thn (ha pins s σ H Q I h) fun c s1 e => ?_)
  cases c with
  | false => exact isTrue_or_nil e
  | true => exact e
theorem pw_and (ha : PT X a tA) (hb : PW X (.BoolOp .And (b :: rest) pos) tB') : PW X (.BoolOp .And (a :: b :: rest) pos) (tAnd tA tB') := by
  intro wh pins s σ H Q I h
  refine isTrue_and (thn (ha pins s σ H _ I h) fun c s1 ⟨H1, I1, q1⟩ => ?_)
  cases c with
  | true => exact hb wh pins s1 σ H1 Q I1 q1
  | false => exact ⟨H1, I1, q1⟩
theorem pw_or (ha : PT X a tA) (hb : PW X (.BoolOp .Or (b :: rest) pos) tB') : PW X (.BoolOp .Or (a :: b :: rest) pos) (tOr tA tB') := by
  intro wh pins s σ H Q I h
  refine isTrue_or (thn (ha pins s σ H _ I h) fun c s1 ⟨H1, I1, q1⟩ => ?_)
  cases c with
  | true => exact ⟨H1, I1, q1⟩
  | false => exact hb wh pins s1 σ H1 Q I1 q1
theorem pt_not (ha : PT X a tA) : PT X (.UnaryOp .Not a pos) (tNot tA) := by
  intro pins s σ H Q I h
  exact isTrue_not (ha pins s σ H (fun c H1 => Q (!c) H1) I h)
/-- .. as values (bools) -/
def tAndV (ta tb : TE) : TE := fun σ H Q => ta σ H fun x H1 => ∃ c, x = .bl c ∧ if c = true then tb σ H1 Q else Q (.bl false) H1
def tOrV (ta tb : TE) : TE := fun σ H Q => ta σ H fun x H1 => ∃ c, x = .bl c ∧ if c = true then Q (.bl true) H1 else tb σ H1 Q
def tNotV (ta : TE) : TE := fun σ H Q => ta σ H fun x H1 => ∃ c, x = .bl c ∧ Q (.bl (!c)) H1
theorem pe_one {op} {t : TE} (h : PE X a t) : PE X (.BoolOp op [a] pos) t := fun pins s σ H Q I hw => BoolOp_one (h pins s σ H Q I hw)
theorem pe_and (ha : PE X a ta) (hb : PE X (.BoolOp .And (b :: rest) pos) tb) : PE X (.BoolOp .And (a :: b :: rest) pos) (tAndV ta tb) := by
  intro pins s σ H Q I h
  refine BoolOp_and (thn (ha pins s σ H _ I h) fun v s1 ⟨x, H1, I1, r1, q1⟩ => ?_)
  obtain ⟨c, rfl, q1⟩ := q1
  cases r1
  refine wpAny_truthy_bool ?_
  cases c with
  | true => exact hb pins s1 σ H1 Q I1 q1
  | false => exact ⟨.bl false, H1, I1, rfl, q1⟩
theorem pe_or (ha : PE X a ta) (hb : PE X (.BoolOp .Or (b :: rest) pos) tb) : PE X (.BoolOp .Or (a :: b :: rest) pos) (tOrV ta tb) := by
  intro pins s σ H Q I h
  refine BoolOp_or (thn (ha pins s σ H _ I h) fun v s1 ⟨x, H1, I1, r1, q1⟩ => ?_)
  obtain ⟨c, rfl, q1⟩ := q1
  cases r1
  refine wpAny_truthy_bool ?_
  cases c with
  | false => exact hb pins s1 σ H1 Q I1 q1
  | true => exact ⟨.bl true, H1, I1, rfl, q1⟩
theorem pe_not (ha : PE X a ta) : PE X (.UnaryOp .Not a pos) (tNotV ta) := by
  intro pins s σ H Q I h
  refine UnaryOp_ (thn (ha pins s σ H _ I h) fun v s1 ⟨x, H1, I1, r1, q1⟩ => ?_)
  obtain ⟨c, rfl, q1⟩ := q1
  cases r1
  exact not_of (wpAny_truthy_bool ⟨.bl (!c), H1, I1, rfl, q1⟩)
/-- a if t else b -/
def tIf (t : TT) (ta tb : TE) : TE := fun σ H Q => t σ H fun c H1 => if c = true then ta σ H1 Q else tb σ H1 Q
theorem pe_ifExp {c : Expr} (hc : PT X c tA) (ha : PE X a ta) (hb : PE X b tb) : PE X (.IfExp c a b pos) (tIf tA ta tb) := by
  intro pins s σ H Q I h
  refine wpAny_IfExp (thn (hc pins s σ H _ I h) fun d s1 ⟨H1, I1, q1⟩ => ?_)
  cases d with
  | true => exact ha pins s1 σ H1 Q I1 q1
  | false => exact hb pins s1 σ H1 Q I1 q1
end
end L2

namespace L2
open PySem PySem.Spec PyProof.Rows

/-! ### a list, a tuple that is read: tracked, frozen, or an object of the module -/
def SqL (K : PySem.W.Frag) (H : Hp) (a : Addr) (xs : List V) : Prop :=
  Rd H a (.lst xs) ∨
    ∃ (o : Obj) (its : Array Value) (n : Nat), K.lookup a = some o ∧ o.cls = .type "list" ∧ o.dict = none ∧ o.data = .seq its n ∧ its.size ≤ sizeLine ∧ Vals xs its.toList
def SqT (K : PySem.W.Frag) (H : Hp) (a : Addr) (xs : List V) : Prop :=
  Rd H a (.tup xs) ∨
    ∃ (o : Obj) (its : Array Value) (n : Nat), K.lookup a = some o ∧ o.cls = .type "tuple" ∧ o.data = .seq its n ∧ its.size ≤ sizeLine ∧ Vals xs its.toList
def absV : Value → Option V
  | .none => some .non
  | .bool b => some (.bl b)
  | .int i _ => some (.int i)
  | .str x _ => some (.str x)
  | .bytes b _ => some (.byt b)
  | .float b _ => some (.flt b)
  | .ref a => some (.ref a)
  | .type n => some (.ty n)
  | _ => none
theorem RelV.abs {x : V} {u : Value} (r : RelV x u) : absV u = some x := by
  cases x with
  | non => cases r; rfl
  | bl _ => cases r; rfl
  | int _ => obtain ⟨t, rfl⟩ := r; rfl
  | str _ => obtain ⟨t, rfl⟩ := r; rfl
  | byt _ => obtain ⟨t, rfl⟩ := r; rfl
  | flt _ => obtain ⟨t, rfl⟩ := r; rfl
  | ref _ => cases r; rfl
  | ty _ => cases r; rfl
theorem RelV.inj {x y : V} {u : Value} (r : RelV x u) (q : RelV y u) : x = y := Option.some.inj (r.abs.symm.trans q.abs)
theorem Vals.inj : ∀ {xs ys : List V} {us : List Value}, Vals xs us → Vals ys us → xs = ys
  | _, _, _, .nil, .nil => rfl
  | _, _, _, .cons r t, .cons r' t' => by rw [r.inj r', Vals.inj t t']
section
variable {X : Cx} {pins : List (Addr × Obj)} {σ : St} {H : Hp} {s : Shared} {a : Addr} {xs ys : List V}
theorem SqL.of {K : PySem.W.Frag} (h : H a = some (.lst xs)) : SqL K H a xs := .inl (.inl h)
theorem SqT.of {K : PySem.W.Frag} (h : H a = some (.tup xs)) : SqT K H a xs := .inl (.inl h)
theorem Inv.list (I : Inv X pins σ H s) (h : SqL X.K H a xs) : ∃ its : List Value, Vals xs its ∧ PlainL s.heap a its.toArray ∧ xs.length ≤ sizeLine := by
  rcases h with h | ⟨o, its, n, hk, hc, hd, hs, hz, r⟩
  · obtain ⟨z, its, n, r, e⟩ := h.ok I.hok
    exact ⟨its, r, ⟨_, n, e, rfl, rfl, rfl⟩, z⟩
  · refine ⟨its.toList, r, ⟨o, n, I.kIn a o hk, hc, hd, by simpa using hs⟩, ?_⟩
    have e := r.length
    simp only [Array.length_toList] at e
    omega
theorem Inv.tuple (I : Inv X pins σ H s) (h : SqT X.K H a xs) : ∃ its : List Value, Vals xs its ∧ IsTup s.heap a its.toArray ∧ xs.length ≤ sizeLine := by
  rcases h with h | ⟨o, its, n, hk, hc, hs, hz, r⟩
  · obtain ⟨z, its, r, p⟩ := h.ok I.hok
    exact ⟨its, r, p, z⟩
  · refine ⟨its.toList, r, ⟨o, I.kIn a o hk, hc, n, by simpa using hs⟩, ?_⟩
    have e := r.length
    simp only [Array.length_toList] at e
    omega
theorem Inv.list_inj (I : Inv X pins σ H s) (h : SqL X.K H a xs) (h' : SqL X.K H a ys) : xs = ys := by
  obtain ⟨its, r, ⟨o, n, e, _, _, d⟩, _⟩ := I.list h
  obtain ⟨its', r', ⟨o', n', e', _, _, d'⟩, _⟩ := I.list h'
  rw [e] at e'; cases e'
  rw [d] at d'
  injection d' with d1 _
  have : its = its' := by simpa using congrArg Array.toList d1
  subst this
  exact r.inj r'
theorem Inv.tuple_inj (I : Inv X pins σ H s) (h : SqT X.K H a xs) (h' : SqT X.K H a ys) : xs = ys := by
  obtain ⟨its, r, ⟨o, e, _, n, d⟩, _⟩ := I.tuple h
  obtain ⟨its', r', ⟨o', e', _, n', d'⟩, _⟩ := I.tuple h'
  rw [e] at e'; cases e'
  rw [d] at d'
  injection d' with d1 _
  have : its = its' := by simpa using congrArg Array.toList d1
  subst this
  exact r.inj r'
end

/-! ### another wish about exceptions -/
abbrev Cx.wish (X : Cx) (E : Value → Shared → Prop) : Cx := { X with xe := E }
/-- no exception leaves -/
abbrev Cx.nox (X : Cx) : Cx := X.wish fun _ _ => False
theorem Cx.Ok.wish {X : Cx} (ok : X.Ok) (E : Value → Shared → Prop) : (X.wish E).Ok :=
  ⟨ok.mod, ok.kind, ok.glob, ok.blt, ok.above, ok.inj, ok.has, ok.cab, ok.hd, ok.frames, ok.stk, ok.exf, ok.bs, ok.bsz, ok.noex, ok.exfs, ok.funs, ok.frf⟩
theorem Cx.Ok.unwish {X : Cx} {E : Value → Shared → Prop} (ok : (X.wish E).Ok) : X.Ok :=
  ⟨ok.mod, ok.kind, ok.glob, ok.blt, ok.above, ok.inj, ok.has, ok.cab, ok.hd, ok.frames, ok.stk, ok.exf, ok.bs, ok.bsz, ok.noex, ok.exfs, ok.funs, ok.frf⟩
section
variable {X : Cx} {pins : List (Addr × Obj)} {σ : St} {H : Hp} {s : Shared} {E : Value → Shared → Prop}
theorem Inv.wish (I : Inv X pins σ H s) (E : Value → Shared → Prop) : Inv (X.wish E) pins σ H s := ⟨I.ok.wish E, I.os, I.bare, I.base, I.loc, I.cell, I.free, I.freeC, I.pin, I.hok, I.len⟩
theorem Inv.unwish (I : Inv (X.wish E) pins σ H s) : Inv X pins σ H s := ⟨I.ok.unwish, I.os, I.bare, I.base, I.loc, I.cell, I.free, I.freeC, I.pin, I.hok, I.len⟩
theorem SP.unwish {D : Ends} {f : Flow} {s' : Shared} (h : SP (X.wish E) pins D f s') : SP X pins D f s' := by
  cases f with
  | next => obtain ⟨σ', H', I, q⟩ := h; exact ⟨σ', H', I.unwish, q⟩
  | brk => obtain ⟨σ', H', I, q⟩ := h; exact ⟨σ', H', I.unwish, q⟩
  | cont => obtain ⟨σ', H', I, q⟩ := h; exact ⟨σ', H', I.unwish, q⟩
  | ret u => obtain ⟨v, σ', H', I, r, q⟩ := h; exact ⟨v, σ', H', I.unwish, r, q⟩
theorem PE.nox {e : Expr} {t : TE} (h : PE X.nox e t) : PE X e t := fun pins s σ H Q I hw =>
  wpAny_mono (h pins s σ H Q (I.wish _) hw) (fun _ _ ⟨v, H', I', r, q⟩ => ⟨v, H', I'.unwish, r, q⟩) fun _ _ z => False.elim z
theorem PT.nox {e : Expr} {t : TT} (h : PT X.nox e t) : PT X e t := fun pins s σ H Q I hw =>
  wpAny_mono (h pins s σ H Q (I.wish _) hw) (fun _ _ ⟨H', I', q⟩ => ⟨H', I'.unwish, q⟩) fun _ _ z => False.elim z
theorem PSs.nox {st : List Stmt} {t : TS} (h : PSs X.nox st t) : PSs X st t := fun pins s σ H D I hw =>
  wpAny_mono (h pins s σ H D (I.wish _) hw) (fun _ _ q => q.unwish) fun _ _ z => False.elim z
end

/-! ### blocks and small statements -/
section
variable {X : Cx} {st : Stmt} {rest : List Stmt} {t u : TS} {e : Expr} {te : TE} {pos : Pos}
def tNext : TS := fun D σ H => D.nx σ H
def tSeq (t u : TS) : TS := fun D σ H => t { D with nx := u D } σ H
theorem pss_nil : PSs X [] tNext := fun _ _ σ H _ I h => wpAny_execs_nil ⟨σ, H, I, h⟩
theorem pss_cons (h1 : PS X st t) (h2 : PSs X rest u) : PSs X (st :: rest) (tSeq t u) := by
  intro pins s σ H D I h
  refine wpAny_execs_cons (thn (h1 pins s σ H { D with nx := u D } I h) fun f s1 q => ?_)
  cases f with
  | next =>
    obtain ⟨σ', H', I', q⟩ := q
    exact h2 pins s1 σ' H' D I' q
  | ret v => exact q
  | brk => exact q
  | cont => exact q
theorem pss_one (h1 : PS X st t) : PSs X [st] t := by
  intro pins s σ H D I h
  refine wpAny_execs_cons (thn (h1 pins s σ H D I h) fun f s1 q => ?_)
  cases f with
  | next => exact wpAny_execs_nil q
  | ret v => exact q
  | brk => exact q
  | cont => exact q
def tBreak : TS := fun D σ H => D.bk σ H
def tCont : TS := fun D σ H => D.ct σ H
theorem ps_pass : PS X (.Pass pos) tNext := fun _ _ σ H _ I h => wpAny_Pass ⟨σ, H, I, h⟩
theorem ps_break : PS X (.Break pos) tBreak := fun _ _ σ H _ I h => wpAny_Break ⟨σ, H, I, h⟩
theorem ps_continue : PS X (.Continue pos) tCont := fun _ _ σ H _ I h => wpAny_Continue ⟨σ, H, I, h⟩
/-- in a def's body nothing is shown -/
theorem Inv.quiet {pins : List (Addr × Obj)} {σ : St} {H : Hp} {s : Shared} (I : Inv X pins σ H s) : interactive X.env = false := by simp [interactive, I.ok.kind]
/-- a docstring -/
theorem ps_doc {x j pos pos'} : PS X (.Expr (.Constant (.str x) j pos) pos') tNext := fun _ s σ H _ I h => wpAny_Expr (Calls.Constant_str (show SP X _ _ .next { s with toks := s.toks + 1 } from ⟨σ, H, I.tok _, h⟩)) I.quiet
/-- an expression whose value is dropped -/
def tDrop (te : TE) : TS := fun D σ H => te σ H fun _ H1 => D.nx σ H1
theorem ps_expr (he : PE X e te) (hs : swapsWith e none pos.line X.env = pure false := by rfl) : PS X (.Expr e pos) (tDrop te) := by
  intro pins s σ H D I h
  exact wpAny_Expr_any (thn (he pins s σ H _ I h) fun v s1 ⟨x, H1, I1, r1, q1⟩ => ⟨σ, H1, I1, q1⟩) I.quiet hs
def tRet (te : TE) : TS := fun D σ H => te σ H D.rt
theorem ps_ret (he : PE X e te) : PS X (.Return (some e) pos) (tRet te) := by
  intro pins s σ H D I h
  exact wpAny_Return_some (thn (he pins s σ H _ I h) fun v s1 ⟨x, H1, I1, r1, q1⟩ => ⟨x, σ, H1, I1, r1, q1⟩)
def tRetN : TS := fun D _ H => D.rt .non H
theorem ps_retN : PS X (.Return none pos) tRetN := fun _ _ σ H _ I h => wpAny_Return_none ⟨.non, σ, H, I, rfl, h⟩
def tIfS (c : TT) (t u : TS) : TS := fun D σ H => c σ H fun b H1 => if b = true then t D σ H1 else u D σ H1
theorem ps_if {c : Expr} {a b : List Stmt} {tc : TT} (hc : PT X c tc) (ha : PSs X a t) (hb : PSs X b u) : PS X (.If c a b pos) (tIfS tc t u) := by
  intro pins s σ H D I h
  refine wpAny_If (thn (hc pins s σ H _ I h) fun d s1 ⟨H1, I1, q1⟩ => ?_)
  cases d with
  | true => exact ha pins s1 σ H1 D I1 q1
  | false => exact hb pins s1 σ H1 D I1 q1
/-- code that the proof never comes to -/
def tNever : TS := fun _ _ _ => False
theorem ps_never : PS X st tNever := fun _ _ _ _ _ _ h => h.elim
theorem pss_never {sts : List Stmt} : PSs X sts tNever := fun _ _ _ _ _ _ h => h.elim
end

/-! ### targets -/
abbrev TG := V → St → Hp → (St → Hp → Prop) → Prop
abbrev TGs := List V → St → Hp → (St → Hp → Prop) → Prop
def PG (X : Cx) (target : Expr) (t : TG) : Prop :=
  ∀ (pins : List (Addr × Obj)) (s : Shared) (σ : St) (H : Hp) (v : V) (u : Value) (Q : St → Hp → Prop), Inv X pins σ H s → RelV v u → t v σ H Q →
    wpAny (model X.prog X.w) X.A (assign target X.env u) (fun _ s' => ∃ σ' H', Inv X pins σ' H' s' ∧ Q σ' H') X.xe s
/-- several targets, one after another -/
def PGs (X : Cx) (ts : List Expr) (t : TGs) : Prop :=
  ∀ (pins : List (Addr × Obj)) (s : Shared) (σ : St) (H : Hp) (vs : List V) (us : List Value) (Q : St → Hp → Prop), Inv X pins σ H s → Vals vs us → t vs σ H Q →
    wpAny (model X.prog X.w) X.A (assignInOrder ((assignEach ts X.env).map (·.2)) us) (fun _ s' => ∃ σ' H', Inv X pins σ' H' s' ∧ Q σ' H') X.xe s
/-- o[i] = v, by values -/
abbrev TSet := V → V → V → Hp → (Hp → Prop) → Prop
def PSet (X : Cx) (t : TSet) : Prop :=
  ∀ (pins : List (Addr × Obj)) (s : Shared) (σ : St) (H : Hp) (o i v : V) (ov iv u : Value) (Q : Hp → Prop), Inv X pins σ H s → RelV o ov → RelV i iv → RelV v u → t o i v H Q →
    wpAny (model X.prog X.w) X.A (setItem ov iv u) (fun _ s' => ∃ H', Inv X pins σ H' s' ∧ Q H') X.xe s
/-- a op= b, by values -/
abbrev TIp := V → V → Hp → VK → Prop
def PIp (X : Cx) (op : Operator) (t : TIp) : Prop :=
  ∀ (pins : List (Addr × Obj)) (s : Shared) (σ : St) (H : Hp) (x y : V) (v u : Value) (Q : VK), Inv X pins σ H s → RelV x v → RelV y u → t x y H Q →
    wpAny (model X.prog X.w) X.A (inplaceOp op v u) (EP X pins σ Q) X.xe s
section
variable {X : Cx} {pos : Pos}
def gName (i : Nat) : TG := fun v σ H Q => Q (σ.set i (some v)) H
theorem pg_name {i : Nat} {x : Str} (hN : X.N.Nodup) (hi : X.N[i]? = some x) (hx : Loc X.env.scope x) (hf : X.fn x = true ∨ X.env.scope.names.lookup x = some .local := by first | exact .inl rfl | exact .inr rfl | assumption) : PG X (.Name x pos) (gName i) := by
  intro pins s σ H v u Q I r h
  exact wpAny_assign_Name (store_ok I hN hi hx r (fun s' I' => ⟨_, H, I', h⟩) hf)
def gNil : TGs := fun vs σ H Q => vs = [] ∧ Q σ H
def gCons (t : TG) (u : TGs) : TGs := fun vs σ H Q => ∃ v r, vs = v :: r ∧ t v σ H fun σ' H' => u r σ' H' Q
theorem pgs_nil : PGs X [] gNil := by
  intro pins s σ H vs us Q I r h
  obtain ⟨e, h⟩ := h
  subst e
  cases r
  exact assignInOrder_nil ⟨σ, H, I, h⟩
theorem pgs_cons {e : Expr} {es : List Expr} {t : TG} {u : TGs} (h1 : PG X e t) (h2 : PGs X es u)
    (hs : (assignEach (e :: es) X.env).map (·.2) = assign e X.env :: (assignEach es X.env).map (·.2) := by rfl) : PGs X (e :: es) (gCons t u) := by
  intro pins s σ H vs us Q I r h
  obtain ⟨v, vr, e1, h⟩ := h
  subst e1
  cases r with
  | cons r rr =>
    rw [hs]
    refine assignInOrder_cons (thn (h1 pins s σ H _ _ _ I r h) fun _ s1 ⟨σ1, H1, I1, q1⟩ => ?_)
    exact h2 pins s1 σ1 H1 _ _ Q I1 rr q1
/-- (a, b, ..) = a tuple of that length -/
def gTup (K : PySem.W.Frag) (n : Nat) (t : TGs) : TG := fun v σ H Q => ∃ a xs, v = .ref a ∧ SqT K H a xs ∧ xs.length = n ∧ t xs σ H Q
theorem pg_tup {es : List Expr} {k : Nat} {t : TGs} {n : Nat} (hc : X.calm = true) (h : PGs X es t)
    (hn : (assignEach es X.env).length = n := by rfl) (hst : (assignEach es X.env).findIdx? (·.1) = none := by rfl) : PG X (.Tuple es k pos) (gTup X.K n t) := by
  intro pins s σ H v u Q I r hw
  obtain ⟨a, xs, e1, hq, hl, hw⟩ := hw
  subst e1
  cases r
  obtain ⟨its, rv, ht, hz⟩ := I.tuple hq
  refine assign_Tuple_tuple (I.ok.hd hc) ht (by simp [hn, ← hl, rv.length]) hst fun h' hx => ?_
  have I1 : Inv X pins σ H { s with heap := h' } := I.kept (t' := s.toks) fun b o e => hx b o (Nat.ne_of_lt (Heap.lt_size e)) e
  exact h pins _ σ H xs _ Q I1 (by simpa using rv) hw
/-- o[i] = .. -/
def gSub (to ti : TE) (t : TSet) : TG := fun v σ H Q => to σ H fun o H1 => ti σ H1 fun i H2 => t o i v H2 fun H3 => Q σ H3
theorem pg_sub {o i : Expr} {to ti : TE} {t : TSet} (ho : PE X o to) (hi : PE X i ti) (hs : PSet X t)
    (ha : ∀ v, assign (.Subscript o i pos) X.env v = (do
      let ov ← holding [v] (eval o X.env)
      let iv ← holding [v, ov] (eval i X.env)
      standAt pos
      holding [v, ov, iv] (setItem ov iv v)
      release [v, ov, iv] []) := by intro _; rfl) : PG X (.Subscript o i pos) (gSub to ti t) := by
  intro pins s σ H v u Q I r h
  rw [ha]
  refine wpAny_bind (wpAny_holding (thn (ho pins s σ H _ I h) fun ov s1 ⟨x, H1, I1, r1, q1⟩ => ?_))
  refine wpAny_bind (wpAny_holding (thn (hi pins s1 σ H1 _ I1 q1) fun iv s2 ⟨y, H2, I2, r2, q2⟩ => ?_))
  refine wpAny_bind (wpAny_standAt (wpAny_bind (wpAny_holding (thn (hs pins s2 σ H2 x y v ov iv u _ I2 r1 r2 r q2) fun _ s3 ⟨H3, I3, q3⟩ => ?_))))
  exact wpAny_release ⟨σ, H3, I3, q3⟩
/-- target = value -/
def tAsg (te : TE) (g : TG) : TS := fun D σ H => te σ H fun x H1 => g x σ H1 D.nx
theorem ps_asg {tg e : Expr} {te : TE} {g : TG} (he : PE X e te) (hg : PG X tg g) (hs : swapsWithSole [tg] e pos.line X.env = pure false := by rfl) (hw : swappedStores [tg] e X.env = pure none := by rfl)
    (h1 : (assignEach [tg] X.env).map (·.2) = [assign tg X.env] := by rfl) : PS X (.Assign [tg] e pos) (tAsg te g) := by
  intro pins s σ H D I h
  refine wpAny_Assign_stores (thn (he pins s σ H _ I h) fun v s1 ⟨x, H1, I1, r1, q1⟩ => ?_) hs hw
  rw [h1]
  exact thn (hg pins s1 σ H1 x v _ I1 r1 q1) fun _ s2 q => q
/-- name = value -/
theorem ps_set {i : Nat} {x : Str} {e : Expr} {te : TE} {pos' : Pos} (hN : X.N.Nodup) (hi : X.N[i]? = some x) (hx : Loc X.env.scope x) (he : PE X e te) (hs : swapsWith e (some (.Name x pos')) pos.line X.env = pure false := by rfl) (hf : X.fn x = true ∨ X.env.scope.names.lookup x = some .local := by first | exact .inl rfl | exact .inr rfl | assumption) :
    PS X (.Assign [.Name x pos'] e pos) (tAsg te (gName i)) := by
  intro pins s σ H D I h
  refine wpAny_Assign_Name (thn (he pins s σ H _ I h) fun v s1 ⟨y, H1, I1, r1, q1⟩ => ?_) hs
  exact store_ok I1 hN hi hx r1 (fun s2 I2 => ⟨_, H1, I2, q1⟩) hf
/-- a, b = x, y with plain local names: stored from the right; the pair itself is not tracked (the opening rows as in PyProof/Rows/TupAssign.lean:23) -/
def tPar (i j : Nat) (ta : TA) : TS := fun D σ H => ta σ H fun vs H1 => ∃ v w, vs = [v, w] ∧ D.nx ((σ.set i (some v)).set j (some w)) H1
theorem ps_par {i j : Nat} {x y : Str} {a b : Expr} {ta : TA} {px py pt : Pos} {kt k2 pt2} (hc : X.calm = true) (hN : X.N.Nodup) (hi : X.N[i]? = some x) (hj : X.N[j]? = some y) (hij : i ≠ j)
    (hx : X.env.scope.names.lookup x = some .local) (hy : X.env.scope.names.lookup y = some .local) (ha : PA X [a, b] ta)
    (hw : swappedStores [.Tuple [.Name x px, .Name y py] kt pt] (.Tuple [a, b] k2 pt2) X.env = pure (some [x, y]))
    (hs : swapsWithSole [.Tuple [.Name x px, .Name y py] kt pt] (.Tuple [a, b] k2 pt2) pos.line X.env = pure false := by rfl) :
    PS X (.Assign [.Tuple [.Name x px, .Name y py] kt pt] (.Tuple [a, b] k2 pt2) pos) (tPar i j ta) := by
  intro pins s σ H D I h
  rw [exec_Assign_arm]
  refine wpAny_bind (wpAny_standAt ?_)
  rw [hs]
  refine wpAny_bind (wpAny_pure ?_)
  rw [if_neg (by decide)]
  refine wpAny_bind (Tuple_ (thn (ha _ pins s σ H _ I h) fun us s1 ⟨vs, H1, I1, r1, q1⟩ => ?_))
  obtain ⟨v, w, e1, q1⟩ := q1
  subst e1
  obtain ⟨u1, u2, rfl, rv, rw'⟩ : ∃ u1 u2, us = [u1, u2] ∧ RelV v u1 ∧ RelV w u2 := by
    cases r1 with
    | cons p q =>
      cases q with
      | cons p' q' =>
        cases q'
        exact ⟨_, _, rfl, p, p'⟩
  refine wpAny_newObj_type ?_ (by show 2 ≤ sizeLine; decide)
  have I2 : Inv X pins σ H1 { s1 with heap := s1.heap.push { cls := .type "tuple", data := .seq [u1, u2].toArray } } := I1.kept (t' := s1.toks) fun b o e => Heap.get?_push_of_some _ e
  rw [hw]
  refine wpAny_bind (wpAny_pure ?_)
  show wpAny (model X.prog X.w) X.A (do rule "assign.swapped-stores"; let items ← unpackItems (.ref s1.heap.objs.size) 2 none; assignInOrder [fun v => bindName X.env y v, fun v => bindName X.env x v] items.reverse; pure Flow.next) _ _ _
  refine wpAny_bind (wpAny_rule (wpAny_bind (unpackItems_tuple (items := #[u1, u2]) (I.ok.hd hc) (IsTup.new s1.heap _) fun h' hx' => ?_)))
  have I3 := I2.kept (h' := h') (t' := s1.toks) fun b o e => hx' b o (Nat.ne_of_lt (Heap.lt_size e)) e
  show wpAny _ _ (assignInOrder [fun v => bindName X.env y v, fun v => bindName X.env x v] [u2, u1] >>= fun _ => pure Flow.next) _ _ _
  refine wpAny_bind (assignInOrder_cons (wpAny_bindName (store_ok I3 hN hj (.inl hy) rw' (fun s2 I4 => ?_) (.inr hy))))
  refine assignInOrder_cons (wpAny_bindName (store_ok I4 hN hi (.inl hx) rv (fun s3 I5 => assignInOrder_nil (wpAny_pure ?_)) (.inr hx)))
  rw [List.set_comm _ _ (Ne.symm hij)] at I5
  exact ⟨_, H1, I5, q1⟩
/-- name op= e -/
def tAug (i : Nat) (te : TE) (ti : TIp) : TS := fun D σ H => ∃ x, σ[i]? = some (some x) ∧ te σ H fun y H1 => ti x y H1 fun z H2 => D.nx (σ.set i (some z)) H2
theorem ps_aug {i : Nat} {x : Str} {e : Expr} {te : TE} {op : Operator} {ti : TIp} {pos' : Pos} (hN : X.N.Nodup) (hi : X.N[i]? = some x) (hx : Loc X.env.scope x) (he : PE X e te) (ho : PIp X op ti) (hf : X.fn x = true ∨ X.env.scope.names.lookup x = some .local := by first | exact .inl rfl | exact .inr rfl | assumption) :
    PS X (.AugAssign (.Name x pos') op e pos) (tAug i te ti) := by
  intro pins s σ H D I h
  obtain ⟨v, e1, h⟩ := h
  obtain ⟨m, hn, hl⟩ := I.loc
  have vis : Vis X.env.scope x := by rcases hx with k | k; exact .inl k; exact .inr (.inl k)
  obtain ⟨u, r, l⟩ := hl i x v hi e1 vis
  refine wpAny_AugAssign_Name ?_
  have go : wpAny (model X.prog X.w) X.A (eval e X.env) (fun w s₂ => wpAny (model X.prog X.w) X.A (inplaceOp op u w) (fun r s₃ => wpAny (model X.prog X.w) X.A (storeName X.env x r) (fun _ => SP X pins D .next) X.xe s₃) X.xe s₂) X.xe s := by
    refine thn (he pins s σ H _ I h) fun w s1 ⟨y, H1, I1, r1, q1⟩ => ?_
    refine thn (ho pins s1 σ H1 v y u w _ I1 r r1 q1) fun z s2 ⟨zv, H2, I2, r2, q2⟩ => ?_
    exact store_ok I2 hN hi hx r2 (fun s3 I3 => ⟨_, H2, I3, q2⟩) hf
  rcases l with ⟨hk, hm⟩ | ⟨hk, c, hc, hcell⟩
  · exact wpAny_loadName_local I.ok.kind hk hn hm go
  · rcases hk with hk | hk
    · exact wpAny_loadName_cell I.ok.kind hk hc hcell go
    · rcases hx with k | k
      · have : X.env.scope.names.lookup x = some .free := hk
        rw [k] at this; cases this
      · have : X.env.scope.names.lookup x = some .free := hk
        rw [k] at this; cases this
/-- o[i] op= e -/
def tAugS (to ti te : TE) (tget : V → V → Hp → VK → Prop) (tip : TIp) (tset : TSet) : TS := fun D σ H => to σ H fun o H1 => ti σ H1 fun i H2 => tget o i H2 fun x H3 => te σ H3 fun y H4 => tip x y H4 fun z H5 => tset o i z H5 fun H6 => D.nx σ H6
/-- o[i], by values -/
def PGet (X : Cx) (t : V → V → Hp → VK → Prop) : Prop :=
  ∀ (pins : List (Addr × Obj)) (s : Shared) (σ : St) (H : Hp) (o i : V) (ov iv : Value) (Q : VK), Inv X pins σ H s → RelV o ov → RelV i iv → t o i H Q →
    wpAny (model X.prog X.w) X.A (getItem ov iv) (EP X pins σ Q) X.xe s
theorem ps_augS {o i e : Expr} {to ti te : TE} {tget : V → V → Hp → VK → Prop} {tip : TIp} {tset : TSet} {op : Operator} {tpos : Pos} (ho : PE X o to) (hi : PE X i ti) (hg : PGet X tget) (he : PE X e te) (hp : PIp X op tip) (hs : PSet X tset)
    (ha : ∀ ov iv new, augStore i ov iv new = (do holding [new, ov, iv] (setItem ov iv new); release [new, ov, iv] []; pure .next) := by intros; rfl) : PS X (.AugAssign (.Subscript o i tpos) op e pos) (tAugS to ti te tget tip tset) := by
  intro pins s σ H D I h
  refine wpAny_AugAssign_SubscriptAny (thn (ho pins s σ H _ I h) fun ov s1 ⟨x1, H1, I1, r1, q1⟩ => ?_) ha
  refine thn (hi pins s1 σ H1 _ I1 q1) fun iv s2 ⟨x2, H2, I2, r2, q2⟩ => ?_
  refine thn (hg pins s2 σ H2 x1 x2 ov iv _ I2 r1 r2 q2) fun old s3 ⟨x3, H3, I3, r3, q3⟩ => ?_
  refine thn (he pins s3 σ H3 _ I3 q3) fun v s4 ⟨x4, H4, I4, r4, q4⟩ => ?_
  refine thn (hp pins s4 σ H4 x3 x4 old v _ I4 r3 r4 q4) fun new s5 ⟨x5, H5, I5, r5, q5⟩ => ?_
  exact thn (hs pins s5 σ H5 x1 x2 x5 ov iv new _ I5 r1 r2 r5 q5) fun _ s6 ⟨H6, I6, q6⟩ => ⟨σ, H6, I6, q6⟩
/-- ints -/
def ipI (f : Int → Int → Int) : TIp := fun x y H Q => ∃ i j, x = .int i ∧ y = .int j ∧ Q (.int (f i j)) H
theorem ip_add : PIp X .Add (ipI fun i j => i + j) := by
  intro pins s σ H x y v u Q I r1 r2 h
  obtain ⟨i, j, e1, e2, q⟩ := h
  subst e1; subst e2
  obtain ⟨t, rfl⟩ := r1
  obtain ⟨t', rfl⟩ := r2
  exact iadd_int ⟨.int _, H, I.tok _, ⟨_, rfl⟩, q⟩
theorem ip_sub : PIp X .Sub (ipI fun i j => i - j) := by
  intro pins s σ H x y v u Q I r1 r2 h
  obtain ⟨i, j, e1, e2, q⟩ := h
  subst e1; subst e2
  obtain ⟨t, rfl⟩ := r1
  obtain ⟨t', rfl⟩ := r2
  exact isub_int ⟨.int _, H, I.tok _, ⟨_, rfl⟩, q⟩
end

/-! ### while -/
section
variable {X : Cx} {pos : Pos}
/-- the invariant W with its measure -/
def tWhile (c : TT) (tb : TS) : TS := fun D σ H => ∃ W : Nat → St → Hp → Prop, (∃ m, W m σ H) ∧ ∀ m σ H, W m σ H →
  c σ H fun b H1 => if b = true then ∃ N : St → Hp → Prop, (∀ σ' H', N σ' H' → ∃ m', m' < m ∧ W m' σ' H') ∧ tb { D with nx := N, ct := N, bk := D.nx } σ H1 else D.nx σ H1
theorem ps_while {c : Expr} {body : List Stmt} {tc : TT} {tb : TS} (hp : PassesOwn (model X.prog X.w) X.A X.env X.xe) (hc : PT X c tc) (hb : PSs X body tb) : PS X (.While c body [] pos) (tWhile tc tb) := by
  intro pins s σ H D I h
  obtain ⟨W, ⟨m0, w0⟩, turn⟩ := h
  refine wpAny_While (codeAny_whileLoop (fun n s' => ∃ σ' H', Inv X pins σ' H' s' ∧ W n σ' H') ?_ m0 ⟨σ, H, I, w0⟩)
  rintro n s1 ⟨σ1, H1, I1, w1⟩
  refine wpAny_passesOwn hp (thn (hc pins s1 σ1 H1 _ I1 (turn n σ1 H1 w1)) fun b s2 ⟨H2, I2, q2⟩ => ?_)
  cases b with
  | true =>
    obtain ⟨N, hN, q2⟩ := q2
    rw [if_pos rfl]
    refine wpAny_passesOwn hp (thn (hb pins s2 σ1 H2 _ I2 q2) fun f s3 q3 => ?_)
    cases f with
    | next =>
      obtain ⟨σ3, H3, I3, n3⟩ := q3
      obtain ⟨m', hm, w3⟩ := hN σ3 H3 n3
      exact ⟨m', hm, σ3, H3, I3, w3⟩
    | cont =>
      obtain ⟨σ3, H3, I3, n3⟩ := q3
      obtain ⟨m', hm, w3⟩ := hN σ3 H3 n3
      exact ⟨m', hm, σ3, H3, I3, w3⟩
    | brk => exact q3
    | ret v => exact q3
  | false =>
    rw [if_neg Bool.false_ne_true]
    exact wpAny_execs_nil ⟨σ1, H2, I2, q2⟩
end

/-! ### what a loop or a comprehension walks -/
/-- at turn i: it yields x (the heap may grow), or it stops -/
structure It where
  go : Nat → Hp → Prop
  yld : Nat → Hp → V → Hp → Prop
  stop : Nat → Hp → Prop
/-- the iterator's own objects may turn: they are not the frame's, not pinned, younger than the entry (or a comprehension's own) -/
def FpOk (X : Cx) (pins : List (Addr × Obj)) (H : Hp) (b : Addr) : Prop :=
  H b = none ∧ b ≠ X.env.locals ∧ b ∉ X.fs ∧ (b ∈ X.ex ∨ X.s₀.heap.objs.size ≤ b) ∧ (∀ x c, X.env.cells.lookup x = some c → c ≠ b) ∧ ∀ p ∈ X.pn ++ pins, p.1 ≠ b
theorem Inv.fpOk {X : Cx} {pins : List (Addr × Obj)} {σ : St} {H H' : Hp} {s : Shared} {b : Addr} (I : Inv X pins σ H s) (hb : s.heap.objs.size ≤ b) (hn : H' b = none) : FpOk X pins H' b := by
  refine ⟨hn, Nat.ne_of_gt (Nat.lt_of_lt_of_le I.lt hb), I.nofs hb, .inr (Nat.le_trans I.sz hb), fun x c e z => ?_, fun p hp z => ?_⟩
  · obtain ⟨v, q⟩ := I.cell x c e
    exact absurd (Nat.lt_of_lt_of_le q.lt (by rw [z]; exact hb)) (Nat.lt_irrefl _)
  · exact absurd (Nat.lt_of_lt_of_le (Heap.lt_size (I.pin p hp).1) (by rw [z]; exact hb)) (Nat.lt_irrefl _)
structure Turn (P : Program) (w : World) (K : PySem.W.Frag) (tg : Expr) (J : It) (fp : List Addr) (it : Addr) (tn : Nat → Heap → Prop) : Prop where
  mem : it ∈ fp
  obj : ∀ i h, tn i h → ∀ b ∈ fp, ∃ o, h.get? b = some o ∧ ∀ v, o.data ≠ .cell v
  keep : ∀ i h h', tn i h → (∀ b ∈ fp, ∀ o, h.get? b = some o → h'.get? b = some o) → tn i h'
  item : ∀ (X : Cx), X.prog = P → X.w = w → X.K = K → X.calm = true → ∀ (i : Nat) (pins : List (Addr × Obj)) (s : Shared) (σ : St) (H : Hp) (E : Value → Shared → Prop), Inv X pins σ H s → (∀ b ∈ fp, FpOk X pins H b) → tn i s.heap → J.go i H →
    wpAny (model P w) X.A (pyNext (.ref it)) (fun r s1 => ∃ u, r = some u ∧
      wpAny (model P w) X.A (letOwnedTupleGo tg (.ref it) u) (fun _ s2 => ∃ x H', Inv X pins σ H' s2 ∧ RelV x u ∧ J.yld i H x H' ∧ tn (i + 1) s2.heap ∧ ∀ b ∈ fp, H' b = none) E s1) E s
  done : ∀ (X : Cx), X.prog = P → X.w = w → X.K = K → X.calm = true → ∀ (i : Nat) (pins : List (Addr × Obj)) (s : Shared) (σ : St) (H : Hp) (E : Value → Shared → Prop), Inv X pins σ H s → (∀ b ∈ fp, FpOk X pins H b) → tn i s.heap → J.stop i H →
    wpAny (model P w) X.A (pyNext (.ref it)) (fun r s1 => r = none ∧ Inv X pins σ H s1) E s
  self : ∀ (A : Around) (i : Nat) (s : Shared) (Q : Value → Shared → Prop) (E : Value → Shared → Prop), tn i s.heap → Q (.ref it) s → wpAny (model P w) A (pyIter (.ref it)) Q E s
abbrev TI := St → Hp → (It → Hp → Prop) → Prop
/-- an iterator has come -/
def PIE (X : Cx) (pins : List (Addr × Obj)) (σ : St) (tg : Expr) (R : It → Hp → Prop) (itv : Value) (s2 : Shared) : Prop :=
  ∃ (it : Addr) (fp : List Addr) (tn : Nat → Heap → Prop) (J : It) (H' : Hp), itv = .ref it ∧ Inv X pins σ H' s2 ∧ Turn X.prog X.w X.K tg J fp it tn ∧ tn 0 s2.heap ∧ (∀ b ∈ fp, FpOk X pins H' b) ∧ R J H'
def PI (X : Cx) (tg iter : Expr) (wi : TI) : Prop :=
  ∀ (pins : List (Addr × Obj)) (s : Shared) (σ : St) (H : Hp) (R : It → Hp → Prop), Inv X pins σ H s → wi σ H R →
    wpAny (model X.prog X.w) X.A (eval iter X.env) (fun v s1 => wpAny (model X.prog X.w) X.A (pyIter v) (PIE X pins σ tg R) X.xe s1) X.xe s

/-- the step ahead of the store is nothing for an iterator that keeps no tuple -/
theorem go_of {M : Model} {A : Around} {E : Value → Shared → Prop} {s : Shared} {tg : Expr} {it : Addr} {u : Value} {o : Obj} {n : String} {vs : Array Value} {Q : Unit → Shared → Prop} (ho : s.heap.get? it = some o) (hc : o.cls = .type n) (hd : o.data = .fields vs)
    (hn : ["enumerate", "zip", "dict_itemiterator", "dict_reverseitemiterator", "odict_iterator", "itertools.zip_longest", "itertools.pairwise"].contains n = false) (hQ : Q () s) : wpAny M A (letOwnedTupleGo tg (.ref it) u) Q E s := by
  unfold letOwnedTupleGo
  cases tg <;> first
    | exact wpAny_pure hQ
    | (cases u <;> first
        | exact wpAny_pure hQ
        | (refine wpAny_bind (wpAny_load ho ?_)
           rw [hc, hd]
           show wpAny M A (if (["enumerate", "zip", "dict_itemiterator", "dict_reverseitemiterator", "odict_iterator", "itertools.zip_longest", "itertools.pairwise"].contains n && vs[0]? == some (rawInt _)) = true then _ else _) Q E s
           rw [if_neg (by intro h; rw [hn, Bool.false_and] at h; cases h)]
           exact wpAny_pure hQ))

/-- the list at a, as it stands at each turn (a loop may append to it) -/
def Itl (K : PySem.W.Frag) (a : Addr) : It :=
  ⟨fun i H => ∃ xs x, SqL K H a xs ∧ xs[i]? = some x, fun i H x H' => H' = H ∧ ∀ xs, SqL K H a xs → xs[i]? = some x, fun i H => ∃ xs, SqL K H a xs ∧ xs.length ≤ i⟩
def Itt (K : PySem.W.Frag) (a : Addr) : It :=
  ⟨fun i H => ∃ xs x, SqT K H a xs ∧ xs[i]? = some x, fun i H x H' => H' = H ∧ ∀ xs, SqT K H a xs → xs[i]? = some x, fun i H => ∃ xs, SqT K H a xs ∧ xs.length ≤ i⟩
/-- lo, lo + 1, .. (n of them) -/
def Itr (lo : Int) (n : Nat) : It := ⟨fun i _ => i < n, fun i H x H' => H' = H ∧ x = .int (lo + i), fun i _ => n ≤ i⟩
theorem turn_list {P : Program} {w : World} {K : PySem.W.Frag} {tg : Expr} (a it : Addr) : Turn P w K tg (Itl K a) [it] it (fun i h => h.IsListIter it a i) where
  mem := by simp
  obj := fun i h st b hb => by
    have e : b = it := by simpa using hb
    subst e
    obtain ⟨o, e, c, d⟩ := st
    exact ⟨o, e, fun v z => by rw [d] at z; cases z⟩
  keep := fun i h h' st k => st.at fun o e => k it (by simp) o e
  item := by
    intro X hP hw hK hc i pins s σ H E I hf st hg
    subst hP hw hK
    obtain ⟨xs, x, hq, hx⟩ := hg
    obtain ⟨its, rv, p, hz⟩ := I.list hq
    obtain ⟨u, hu, ru⟩ := rv.get hx
    obtain ⟨f0, f1, f2, f3, f4, f5⟩ := hf it (by simp)
    refine wpAny_pyNext_list_item st p.isList (x := u) (by simpa using hu) fun h' st' sb => ?_
    have I1 : Inv X pins σ H { s with heap := h' } := I.turned (t' := s.toks) (fun b o hb e => (sb.2 b hb).trans e) f0 f1 f3 f4 f5
    obtain ⟨o, e, c, d⟩ := id st'
    exact ⟨u, rfl, go_of (s := { s with heap := h' }) e c d (by decide) ⟨x, H, I1, ru, ⟨rfl, fun ys hy => by rw [I.list_inj hy hq]; exact hx⟩, st', fun b hb => (hf b hb).1⟩⟩
  done := by
    intro X hP hw hK hc i pins s σ H E I hf st hg
    subst hP hw hK
    obtain ⟨xs, hq, hx⟩ := hg
    obtain ⟨its, rv, p, hz⟩ := I.list hq
    obtain ⟨f0, f1, f2, f3, f4, f5⟩ := hf it (by simp)
    have hl := rv.length
    exact wpAny_pyNext_list_end (I.ok.hd hc) st p.isList (by simp; omega) fun h' eb => ⟨rfl, I.turned (t' := s.toks) (fun b o hb e => eb b o hb e) f0 f1 f3 f4 f5⟩
  self := fun _ _ _ _ _ st h => wpAny_pyIter_listiter st h
theorem turn_tuple {P : Program} {w : World} {K : PySem.W.Frag} {tg : Expr} (a it : Addr) : Turn P w K tg (Itt K a) [it] it (fun i h => h.IsTupleIter it a i) where
  mem := by simp
  obj := fun i h st b hb => by
    have e : b = it := by simpa using hb
    subst e
    obtain ⟨o, e, c, d⟩ := st
    exact ⟨o, e, fun v z => by rw [d] at z; cases z⟩
  keep := fun i h h' st k => st.at fun o e => k it (by simp) o e
  item := by
    intro X hP hw hK hc i pins s σ H E I hf st hg
    subst hP hw hK
    obtain ⟨xs, x, hq, hx⟩ := hg
    obtain ⟨its, rv, p, hz⟩ := I.tuple hq
    obtain ⟨u, hu, ru⟩ := rv.get hx
    obtain ⟨f0, f1, f2, f3, f4, f5⟩ := hf it (by simp)
    refine wpAny_pyNext_tuple_item st (show s.heap.IsTuple a its.toArray from p) (x := u) (by simpa using hu) fun h' st' sb => ?_
    have I1 : Inv X pins σ H { s with heap := h' } := I.turned (t' := s.toks) (fun b o hb e => (sb.2 b hb).trans e) f0 f1 f3 f4 f5
    obtain ⟨o, e, c, d⟩ := id st'
    exact ⟨u, rfl, go_of (s := { s with heap := h' }) e c d (by decide) ⟨x, H, I1, ru, ⟨rfl, fun ys hy => by rw [I.tuple_inj hy hq]; exact hx⟩, st', fun b hb => (hf b hb).1⟩⟩
  done := by
    intro X hP hw hK hc i pins s σ H E I hf st hg
    subst hP hw hK
    obtain ⟨xs, hq, hx⟩ := hg
    obtain ⟨its, rv, p, hz⟩ := I.tuple hq
    obtain ⟨f0, f1, f2, f3, f4, f5⟩ := hf it (by simp)
    have hl := rv.length
    exact wpAny_pyNext_tuple_end (I.ok.hd hc) st (show s.heap.IsTuple a its.toArray from p) (by simp; omega) fun h' eb => ⟨rfl, I.turned (t' := s.toks) (fun b o hb e => eb b o hb e) f0 f1 f3 f4 f5⟩
  self := fun _ _ _ _ _ st h => wpAny_pyIter_tupleiter st h
theorem turn_range {P : Program} {w : World} {K : PySem.W.Frag} {tg : Expr} (it : Addr) (lo : Int) (n : Nat) : Turn P w K tg (Itr lo n) [it] it (fun i h => IsRangeIter h it (lo + (i : Nat) * 1) ((n : Int) - (i : Nat)) 1) where
  mem := by simp
  obj := fun i h st b hb => by
    have e : b = it := by simpa using hb
    subst e
    exact ⟨_, st, fun v z => by
      have z' : Data.fields _ = Data.cell v := z
      cases z'⟩
  keep := fun i h h' st k => k it (by simp) _ st
  item := by
    intro X hP hw hK hc i pins s σ H E I hf st hg
    subst hP hw hK
    obtain ⟨f0, f1, f2, f3, f4, f5⟩ := hf it (by simp)
    have W := Walks.range (prog := X.prog) (w := X.w) (I.ok.hd hc) it lo 1 n
    refine W.item i s _ _ hg st fun v h' tk hv st' kk => ?_
    obtain ⟨t, rfl⟩ := hv
    have I1 : Inv X pins σ H { s with heap := h', toks := tk } := I.turned (fun b o hb e => kk b o (by simpa using hb) e) f0 f1 f3 f4 f5
    refine ⟨_, rfl, go_of (s := { s with heap := h', toks := tk }) (n := "range_iterator") st' rfl rfl (by decide) ⟨.int (lo + i), H, I1, ⟨t, ?_⟩, ⟨rfl, rfl⟩, st', fun b hb => (hf b hb).1⟩⟩
    rw [Int.mul_one]
  done := by
    intro X hP hw hK hc i pins s σ H E I hf st hg
    subst hP hw hK
    obtain ⟨f0, f1, f2, f3, f4, f5⟩ := hf it (by simp)
    exact wpAny_pyNext_range_end (I.ok.hd hc) st (by have : n ≤ i := hg; omega) fun h' eb => ⟨rfl, I.turned (t' := s.toks) (fun b o hb e => eb b o hb e) f0 f1 f3 f4 f5⟩
  self := fun _ _ _ _ _ st h => wpAny_pyIter_rangeiter st h
end L2

namespace L2
open PySem PySem.Spec PyProof.Rows
section
variable {X : Cx} {tg : Expr}
def iList (K : PySem.W.Frag) (tl : TE) : TI := fun σ H R => tl σ H fun x H1 => ∃ a, x = .ref a ∧ (∃ xs, SqL K H1 a xs) ∧ R (Itl K a) H1
def iTup (K : PySem.W.Frag) (tl : TE) : TI := fun σ H R => tl σ H fun x H1 => ∃ a, x = .ref a ∧ (∃ xs, SqT K H1 a xs) ∧ R (Itt K a) H1
theorem pi_list {l : Expr} {tl : TE} (hl : PE X l tl) : PI X tg l (iList X.K tl) := by
  intro pins s σ H R I h
  refine thn (hl pins s σ H _ I h) fun v s1 ⟨x, H1, I1, r1, q1⟩ => ?_
  obtain ⟨a, e, ⟨xs, hq⟩, q⟩ := q1
  subst e
  cases r1
  obtain ⟨its, rv, p, hz⟩ := I1.list hq
  refine wpAny_pyIter_list p.isList ?_
  refine ⟨s1.heap.objs.size, [s1.heap.objs.size], _, _, H1, rfl, I1.kept (t' := s1.toks) fun b o e => Heap.get?_push_of_some _ e, turn_list a _, ⟨_, Heap.get?_push_size _ rfl, rfl, rfl⟩, fun b hb => ?_, q⟩
  have e : b = s1.heap.objs.size := by simpa using hb
  subst e
  exact I1.fpOk (Nat.le_refl _) (I1.hok.fresh (Nat.le_refl _))
theorem pi_tup {l : Expr} {tl : TE} (hl : PE X l tl) : PI X tg l (iTup X.K tl) := by
  intro pins s σ H R I h
  refine thn (hl pins s σ H _ I h) fun v s1 ⟨x, H1, I1, r1, q1⟩ => ?_
  obtain ⟨a, e, ⟨xs, hq⟩, q⟩ := q1
  subst e
  cases r1
  obtain ⟨its, rv, p, hz⟩ := I1.tuple hq
  refine wpAny_pyIter_tuple (show s1.heap.IsTuple a its.toArray from p) ?_
  refine ⟨s1.heap.objs.size, [s1.heap.objs.size], _, _, H1, rfl, I1.kept (t' := s1.toks) fun b o e => Heap.get?_push_of_some _ e, turn_tuple a _, ⟨_, Heap.get?_push_size _ rfl, rfl, rfl⟩, fun b hb => ?_, q⟩
  have e : b = s1.heap.objs.size := by simpa using hb
  subst e
  exact I1.fpOk (Nat.le_refl _) (I1.hok.fresh (Nat.le_refl _))
/-- a range object just made, walked -/
theorem range_it {pins : List (Addr × Obj)} {σ : St} {H : Hp} {s : Shared} {R : It → Hp → Prop} {E : Value → Shared → Prop} {lo hi : Int} {t u v : Tok} {tk : Nat} (I : Inv X pins σ H s) (h1 : -(2 ^ 62) ≤ lo) (h2 : lo < 2 ^ 62) (h3 : -(2 ^ 62) ≤ hi) (h4 : hi < 2 ^ 62)
    (q : R (Itr lo (hi - lo).toNat) H) : wpAny (model X.prog X.w) X.A (pyIter (.ref s.heap.objs.size)) (PIE X pins σ tg R) E { s with heap := s.heap.push { cls := .type "range", data := .fields #[.int lo t, .int hi u, .int 1 v] }, toks := tk } := by
  refine wpAny_pyIter_range (IsRange.new ..) (small_one h1 h2 h3 h4) ?_
  have I1 : Inv X pins σ H { s with heap := s.heap.push { cls := .type "range", data := .fields #[.int lo t, .int hi u, .int 1 v] }, toks := tk } := I.kept fun b o e => Heap.get?_push_of_some _ e
  refine ⟨(s.heap.push { cls := .type "range", data := .fields #[.int lo t, .int hi u, .int 1 v] }).objs.size, [(s.heap.push { cls := .type "range", data := .fields #[.int lo t, .int hi u, .int 1 v] }).objs.size], _, _, H, rfl,
    I1.kept (t' := tk) fun b o e => Heap.get?_push_of_some _ e, turn_range _ lo (hi - lo).toNat, ?_, fun b hb => ?_, q⟩
  · have e1 : lo + ((0 : Nat) : Int) * 1 = lo := by simp
    have e2 : (((hi - lo).toNat : Nat) : Int) - ((0 : Nat) : Int) = Builtin.Range.rangeSize lo hi 1 := by rw [rangeSize_one]; split <;> omega
    show IsRangeIter _ _ (lo + ((0 : Nat) : Int) * 1) ((((hi - lo).toNat : Nat) : Int) - ((0 : Nat) : Int)) 1
    rw [e1, e2]
    exact Heap.get?_push_size _ rfl
  · have e : b = (s.heap.push { cls := .type "range", data := .fields #[.int lo t, .int hi u, .int 1 v] }).objs.size := by simpa using hb
    subst e
    exact I1.fpOk (Nat.le_refl _) (I1.hok.fresh (Nat.le_refl _))
def iRng1 (ta : TA) : TI := fun σ H R => ta σ H fun vs H1 => ∃ j : Int, vs = [.int j] ∧ -(2 ^ 62) ≤ j ∧ j < 2 ^ 62 ∧ R (Itr 0 j.toNat) H1
def iRng2 (ta : TA) : TI := fun σ H R => ta σ H fun vs H1 => ∃ i j : Int, vs = [.int i, .int j] ∧ (-(2 ^ 62) ≤ i ∧ i < 2 ^ 62 ∧ -(2 ^ 62) ≤ j ∧ j < 2 ^ 62) ∧ R (Itr i (j - i).toNat) H1
theorem pi_range1 {a : Expr} {ta : TA} {p pos : Pos} (hg : Gl X "range") (hm : X.mg "range" = none) (ha : PA X [a] ta) (hs : starEach [a] X.env = [(false, eval a X.env)] := by rfl) : PI X tg (.Call (.Name "range" p) [a] [] pos) (iRng1 ta) := by
  intro pins s σ H R I h
  refine Call_ (ld_blt I hg hm boot_range (PyProof.Rows.callWith_type1 (thn (ha pos pins s σ H _ I h) fun us s1 ⟨vs, H1, I1, r1, q1⟩ => ?_) hs rfl))
  obtain ⟨j, e, q1, q2, q⟩ := q1
  subst e
  cases r1 with
  | cons r rr =>
    cases rr
    obtain ⟨t, rfl⟩ := r
    exact call_range_1 (range_it I1 (by omega) (by omega) q1 q2 (by simpa using q))
theorem pi_range2 {a b : Expr} {ta : TA} {p pos : Pos} (hg : Gl X "range") (hm : X.mg "range" = none) (ha : PA X [a, b] ta) (hs : starEach [a, b] X.env = [(false, eval a X.env), (false, eval b X.env)] := by rfl) (hs2 : starEach [b] X.env = [(false, eval b X.env)] := by rfl) :
    PI X tg (.Call (.Name "range" p) [a, b] [] pos) (iRng2 ta) := by
  intro pins s σ H R I h
  refine Call_ (ld_blt I hg hm boot_range (PyProof.Rows.callWith_type1 (thn (ha pos pins s σ H _ I h) fun us s1 ⟨vs, H1, I1, r1, q1⟩ => ?_) (by rw [hs, hs2]) (by rw [hs2]; rfl)))
  obtain ⟨i, j, e, ⟨q1, q2, q3, q4⟩, q⟩ := q1
  subst e
  cases r1 with
  | cons r rr =>
    cases rr with
    | cons r' rr =>
      cases rr
      obtain ⟨t, rfl⟩ := r
      obtain ⟨t', rfl⟩ := r'
      exact call_range_2 (range_it I1 q1 q2 q3 q4 q)

/-! ### for -/
/-- W: the invariant by the turn and a measure; N: what the body is to reach -/
def tFor (wi : TI) (g : TG) (tb : TS) : TS := fun D σ H => wi σ H fun J H1 => ∃ W : Nat → Nat → St → Hp → Prop, (∃ m, W 0 m σ H1) ∧ ∀ i m σ H, W i m σ H →
  (J.stop i H ∧ D.nx σ H) ∨ (J.go i H ∧ ∃ N : St → Hp → Prop, (∀ σ' H', N σ' H' → ∃ m', m' < m ∧ W (i + 1) m' σ' H') ∧ ∀ x H', J.yld i H x H' → g x σ H' fun σ2 H2 => tb { D with nx := N, ct := N, bk := D.nx } σ2 H2)
/-- the records at fp as they stand -/
def pinsAt (fp : List Addr) (h : Heap) : List (Addr × Obj) := fp.filterMap fun b => (h.get? b).map fun o => (b, o)
theorem mem_pinsAt {fp : List Addr} {h : Heap} {b : Addr} {o : Obj} (hb : b ∈ fp) (e : h.get? b = some o) : (b, o) ∈ pinsAt fp h := List.mem_filterMap.mpr ⟨b, hb, by rw [e]; rfl⟩
theorem of_pinsAt {fp : List Addr} {h : Heap} {p : Addr × Obj} (hp : p ∈ pinsAt fp h) : p.1 ∈ fp ∧ h.get? p.1 = some p.2 := by
  obtain ⟨b, hb, e⟩ := List.mem_filterMap.mp hp
  cases q : h.get? b with
  | none => rw [q] at e; cases e
  | some o =>
    rw [q] at e
    have e' : (b, o) = p := Option.some.inj e
    subst e'
    exact ⟨hb, q⟩
theorem Inv.pinned {pins : List (Addr × Obj)} {σ : St} {H : Hp} {s : Shared} {fp : List Addr} (I : Inv X pins σ H s) (hf : ∀ b ∈ fp, FpOk X pins H b) (ho : ∀ b ∈ fp, ∃ o, s.heap.get? b = some o ∧ ∀ v, o.data ≠ .cell v) : Inv X (pins ++ pinsAt fp s.heap) σ H s :=
  I.pins_of fun p hp => (List.mem_append.mp hp).elim (fun z => I.pin p (List.mem_append_right _ z)) fun z => by
    obtain ⟨hb, e⟩ := of_pinsAt z
    obtain ⟨f0, f1, f2, _⟩ := hf p.1 hb
    obtain ⟨o, e', d⟩ := ho p.1 hb
    rw [e] at e'; cases e'
    exact ⟨e, f0, f1, f2, d⟩
theorem Inv.unpinned {pins pl : List (Addr × Obj)} {σ : St} {H : Hp} {s : Shared} (I : Inv X (pins ++ pl) σ H s) : Inv X pins σ H s := I.pins_of fun p hp => I.pin p (List.mem_append_right _ (List.mem_append_left _ hp))
theorem ps_for {iter : Expr} {body : List Stmt} {wi : TI} {g : TG} {tb : TS} {pos : Pos} (hp : PassesOwn (model X.prog X.w) X.A X.env X.xe) (hc : X.calm = true) (hi : PI X tg iter wi) (hg : PG X tg g) (hb : PSs X body tb)
    (hs : ∀ x, foldedSetIterable iter X.env x = pure x := by intro _; rfl) : PS X (.For tg iter body [] pos) (tFor wi g tb) := by
  intro pins s σ H D I h
  refine wpAny_For (thn (hi pins s σ H _ I h) fun v s1 h1 => thn h1 fun itv s2 h2 => ?_) hs
  obtain ⟨it, fp, tn, J, H2, e, I2, T, st2, f2, W, ⟨m0, w0⟩, turn⟩ := h2
  subst e
  -- what stays true of the iterator's objects through the loop
  have stat : ∀ {H' : Hp}, (∀ b ∈ fp, H' b = none) → ∀ b ∈ fp, FpOk X pins H' b := fun hn b hb => ⟨hn b hb, (f2 b hb).2⟩
  refine codeAny_forLoop_any (fun n s' => ∃ i σ' H', Inv X pins σ' H' s' ∧ tn i s'.heap ∧ (∀ b ∈ fp, H' b = none) ∧ W i n σ' H') ?_ m0 ⟨0, σ, H2, I2, st2, fun b hb => (f2 b hb).1, w0⟩
  rintro n s3 ⟨i, σ3, H3, I3, st3, fr3, w3⟩
  rcases turn i n σ3 H3 w3 with ⟨stop, qn⟩ | ⟨go, N, hN, step⟩
  · refine wpAny_passesOwn hp (thn (T.done X rfl rfl rfl hc i pins s3 σ3 H3 X.xe I3 (stat fr3) st3 stop) fun r s4 ⟨hr, I4⟩ => ?_)
    subst hr
    exact wpAny_execs_nil ⟨σ3, H3, I4, qn⟩
  · refine wpAny_passesOwn hp (thn (T.item X rfl rfl rfl hc i pins s3 σ3 H3 X.xe I3 (stat fr3) st3 go) fun r s4 ⟨u, hr, h4⟩ => ?_)
    subst hr
    refine wpAny_passesOwn hp (thn h4 fun _ s5 ⟨x, H5, I5, r5, y5, st5, fr5⟩ => ?_)
    have I5' := I5.pinned (stat fr5) (T.obj _ _ st5)
    refine wpAny_passesOwn hp (thn (hg _ s5 σ3 H5 x u _ I5' r5 (step x H5 y5)) fun _ s6 ⟨σ6, H6, I6, q6⟩ => ?_)
    refine wpAny_passesOwn hp (thn (hb _ s6 σ6 H6 _ I6 q6) fun f s7 q7 => ?_)
    have again : ∀ {σ7 : St} {H7 : Hp}, Inv X (pins ++ pinsAt fp s5.heap) σ7 H7 s7 → N σ7 H7 → ∃ m, m < n ∧ ∃ i σ' H', Inv X pins σ' H' s7 ∧ tn i s7.heap ∧ (∀ b ∈ fp, H' b = none) ∧ W i m σ' H' := fun {σ7 H7} I7 n7 => by
      obtain ⟨m', hm, w7⟩ := hN σ7 H7 n7
      refine ⟨m', hm, i + 1, σ7, H7, I7.unpinned, T.keep _ _ _ st5 fun b hb o e => (I7.pin (b, o) (List.mem_append_right _ (List.mem_append_right _ (mem_pinsAt hb e)))).1, fun b hb => ?_, w7⟩
      obtain ⟨o, e, d⟩ := T.obj _ _ st5 b hb
      exact (I7.pin (b, o) (List.mem_append_right _ (List.mem_append_right _ (mem_pinsAt hb e)))).2.1
    cases f with
    | next => obtain ⟨σ7, H7, I7, n7⟩ := q7; exact again I7 n7
    | cont => obtain ⟨σ7, H7, I7, n7⟩ := q7; exact again I7 n7
    | brk => obtain ⟨σ7, H7, I7, q7⟩ := q7; exact ⟨σ7, H7, I7.unpinned, q7⟩
    | ret v => obtain ⟨x7, σ7, H7, I7, r7, q7⟩ := q7; exact ⟨x7, σ7, H7, I7.unpinned, r7, q7⟩
end

/-! ### the forms one uses -/
/-- over a list that the body leaves as it is -/
theorem for_list {K : PySem.W.Frag} {a : Addr} {xs : List V} {g : TG} {tb : TS} {D : Ends} {σ : St} {H : Hp} (Pv : Nat → St → Hp → Prop) (h0 : Pv 0 σ H) (hl : ∀ i σ H, i ≤ xs.length → Pv i σ H → SqL K H a xs)
    (hs : ∀ i x σ H, xs[i]? = some x → Pv i σ H → g x σ H fun σ2 H2 => tb { D with nx := Pv (i + 1), ct := Pv (i + 1), bk := D.nx } σ2 H2) (hd : ∀ σ H, Pv xs.length σ H → D.nx σ H) :
    ∃ W : Nat → Nat → St → Hp → Prop, (∃ m, W 0 m σ H) ∧ ∀ i m σ H, W i m σ H →
      ((Itl K a).stop i H ∧ D.nx σ H) ∨ ((Itl K a).go i H ∧ ∃ N : St → Hp → Prop, (∀ σ' H', N σ' H' → ∃ m', m' < m ∧ W (i + 1) m' σ' H') ∧ ∀ x H', (Itl K a).yld i H x H' → g x σ H' fun σ2 H2 => tb { D with nx := N, ct := N, bk := D.nx } σ2 H2) := by
  refine ⟨fun i m σ H => m = xs.length - i ∧ i ≤ xs.length ∧ Pv i σ H, ⟨xs.length, by simp, Nat.zero_le _, h0⟩, ?_⟩
  rintro i m σ H ⟨rfl, hi, p⟩
  have q := hl i σ H hi p
  by_cases hlt : i < xs.length
  · refine .inr ⟨⟨xs, xs[i], q, by simp [hlt]⟩, Pv (i + 1), fun σ' H' p' => ⟨xs.length - (i + 1), by omega, rfl, hlt, p'⟩, fun x H' y => ?_⟩
    obtain ⟨e, y⟩ := y
    subst e
    exact hs i x σ _ (y xs q) p
  · have e : i = xs.length := by omega
    subst e
    exact .inl ⟨⟨xs, q, Nat.le_refl _⟩, hd σ H p⟩
theorem for_tup {K : PySem.W.Frag} {a : Addr} {xs : List V} {g : TG} {tb : TS} {D : Ends} {σ : St} {H : Hp} (Pv : Nat → St → Hp → Prop) (h0 : Pv 0 σ H) (hl : ∀ i σ H, i ≤ xs.length → Pv i σ H → SqT K H a xs)
    (hs : ∀ i x σ H, xs[i]? = some x → Pv i σ H → g x σ H fun σ2 H2 => tb { D with nx := Pv (i + 1), ct := Pv (i + 1), bk := D.nx } σ2 H2) (hd : ∀ σ H, Pv xs.length σ H → D.nx σ H) :
    ∃ W : Nat → Nat → St → Hp → Prop, (∃ m, W 0 m σ H) ∧ ∀ i m σ H, W i m σ H →
      ((Itt K a).stop i H ∧ D.nx σ H) ∨ ((Itt K a).go i H ∧ ∃ N : St → Hp → Prop, (∀ σ' H', N σ' H' → ∃ m', m' < m ∧ W (i + 1) m' σ' H') ∧ ∀ x H', (Itt K a).yld i H x H' → g x σ H' fun σ2 H2 => tb { D with nx := N, ct := N, bk := D.nx } σ2 H2) := by
  refine ⟨fun i m σ H => m = xs.length - i ∧ i ≤ xs.length ∧ Pv i σ H, ⟨xs.length, by simp, Nat.zero_le _, h0⟩, ?_⟩
  rintro i m σ H ⟨rfl, hi, p⟩
  have q := hl i σ H hi p
  by_cases hlt : i < xs.length
  · refine .inr ⟨⟨xs, xs[i], q, by simp [hlt]⟩, Pv (i + 1), fun σ' H' p' => ⟨xs.length - (i + 1), by omega, rfl, hlt, p'⟩, fun x H' y => ?_⟩
    obtain ⟨e, y⟩ := y
    subst e
    exact hs i x σ _ (y xs q) p
  · have e : i = xs.length := by omega
    subst e
    exact .inl ⟨⟨xs, q, Nat.le_refl _⟩, hd σ H p⟩
theorem for_range {lo : Int} {n : Nat} {g : TG} {tb : TS} {D : Ends} {σ : St} {H : Hp} (Pv : Nat → St → Hp → Prop) (h0 : Pv 0 σ H)
    (hs : ∀ i σ H, i < n → Pv i σ H → g (.int (lo + i)) σ H fun σ2 H2 => tb { D with nx := Pv (i + 1), ct := Pv (i + 1), bk := D.nx } σ2 H2) (hd : ∀ σ H, Pv n σ H → D.nx σ H) :
    ∃ W : Nat → Nat → St → Hp → Prop, (∃ m, W 0 m σ H) ∧ ∀ i m σ H, W i m σ H →
      ((Itr lo n).stop i H ∧ D.nx σ H) ∨ ((Itr lo n).go i H ∧ ∃ N : St → Hp → Prop, (∀ σ' H', N σ' H' → ∃ m', m' < m ∧ W (i + 1) m' σ' H') ∧ ∀ x H', (Itr lo n).yld i H x H' → g x σ H' fun σ2 H2 => tb { D with nx := N, ct := N, bk := D.nx } σ2 H2) := by
  refine ⟨fun i m σ H => m = n - i ∧ i ≤ n ∧ Pv i σ H, ⟨n, by simp, Nat.zero_le _, h0⟩, ?_⟩
  rintro i m σ H ⟨rfl, hi, p⟩
  by_cases hlt : i < n
  · refine .inr ⟨hlt, Pv (i + 1), fun σ' H' p' => ⟨n - (i + 1), by omega, rfl, hlt, p'⟩, fun x H' y => ?_⟩
    obtain ⟨e, y⟩ := y
    subst e y
    exact hs i σ _ hlt p
  · have e : i = n := by omega
    subst e
    exact .inl ⟨Nat.le_refl _, hd σ H p⟩
/-- while, by a word and a measure of the state -/
theorem while_by {c : TT} {tb : TS} {D : Ends} {σ : St} {H : Hp} (Pv : St → Hp → Prop) (μ : St → Hp → Nat) (h0 : Pv σ H)
    (hs : ∀ σ H, Pv σ H → c σ H fun b H1 => if b = true then tb { D with nx := fun σ' H' => Pv σ' H' ∧ μ σ' H' < μ σ H, ct := fun σ' H' => Pv σ' H' ∧ μ σ' H' < μ σ H, bk := D.nx } σ H1 else D.nx σ H1)
    (mono : ∀ σ H Q Q', (∀ b H1, Q b H1 → Q' b H1) → c σ H Q → c σ H Q') : tWhile c tb D σ H := by
  refine ⟨fun m σ H => m = μ σ H ∧ Pv σ H, ⟨_, rfl, h0⟩, ?_⟩
  rintro m σ H ⟨rfl, p⟩
  refine mono σ H _ _ (fun b H1 q => ?_) (hs σ H p)
  cases b with
  | true => exact ⟨_, fun σ' H' ⟨p', l⟩ => ⟨_, l, rfl, p'⟩, q⟩
  | false => exact q
end L2

namespace L2
open PySem PySem.Spec PyProof.Rows

abbrev R2 := V → V → Hp → VK → Prop
/-- a two-place operation on values: f is binaryOp op, inplaceOp op or compareOp op -/
def OpR (X : Cx) (f : Value → Value → Sem Value) (r : R2) : Prop :=
  ∀ (pins : List (Addr × Obj)) (s : Shared) (σ : St) (H : Hp) (x y : V) (v u : Value) (Q : VK), Inv X pins σ H s → RelV x v → RelV y u → r x y H Q →
    wpAny (model X.prog X.w) X.A (f v u) (EP X pins σ Q) X.xe s
/-- a one-place operation -/
def UnR (X : Cx) (f : Value → Sem Value) (r : V → Hp → VK → Prop) : Prop :=
  ∀ (pins : List (Addr × Obj)) (s : Shared) (σ : St) (H : Hp) (x : V) (v : Value) (Q : VK), Inv X pins σ H s → RelV x v → r x H Q →
    wpAny (model X.prog X.w) X.A (f v) (EP X pins σ Q) X.xe s
/-- a call of a value that is known (a builtin, a type) with values -/
def CallR (X : Cx) (f : Value) (r : List V → Hp → VK → Prop) : Prop :=
  ∀ (pins : List (Addr × Obj)) (s : Shared) (σ : St) (H : Hp) (xs : List V) (us : List Value) (Q : VK), Inv X pins σ H s → Vals xs us → r xs H Q →
    wpAny (model X.prog X.w) X.A (call f us) (EP X pins σ Q) X.xe s
/-- a value's truth -/
def TruR (X : Cx) (r : V → Hp → (Bool → Hp → Prop) → Prop) : Prop :=
  ∀ (pins : List (Addr × Obj)) (s : Shared) (σ : St) (H : Hp) (x : V) (v : Value) (Q : Bool → Hp → Prop), Inv X pins σ H s → RelV x v → r x H Q →
    wpAny (model X.prog X.w) X.A (truthy v) (TP X pins σ Q) X.xe s

def tOp (r : R2) (ta tb : TE) : TE := fun σ H Q => ta σ H fun x H1 => tb σ H1 fun y H2 => r x y H2 Q
def tUn (r : V → Hp → VK → Prop) (ta : TE) : TE := fun σ H Q => ta σ H fun x H1 => r x H1 Q
/-- ints in, under C, and a value out -/
def rI (C : Int → Int → Prop) (g : Int → Int → V) : R2 := fun x y H Q => ∃ i j, x = .int i ∧ y = .int j ∧ C i j ∧ Q (g i j) H
def rI0 (g : Int → Int → V) : R2 := fun x y H Q => ∃ i j, x = .int i ∧ y = .int j ∧ Q (g i j) H
def rU (g : Int → V) : V → Hp → VK → Prop := fun x H Q => ∃ i, x = .int i ∧ Q (g i) H

section
variable {X : Cx} {a b c : Expr} {ta tb tc : TE} {pos : Pos}

theorem binT (ha : PE X a ta) (hb : PE X b tb) {pins : List (Addr × Obj)} {s : Shared} {σ : St} {H : Hp} {R : V → V → Hp → Prop} (I : Inv X pins σ H s)
    (h : ta σ H fun x H1 => tb σ H1 fun y H2 => R x y H2) {Q : Value → Shared → Prop} {f : Value → Value → Sem Value}
    (hf : ∀ v u s2 x y H2, Inv X pins σ H2 s2 → RelV x v → RelV y u → R x y H2 → wpAny (model X.prog X.w) X.A (f v u) Q X.xe s2) :
    wpAny (model X.prog X.w) X.A (eval a X.env) (fun v s₁ => wpAny (model X.prog X.w) X.A (eval b X.env) (fun u s₂ => wpAny (model X.prog X.w) X.A (f v u) Q X.xe s₂) X.xe s₁) X.xe s := by
  refine thn (ha pins s σ H _ I h) fun v s1 ⟨x, H1, I1, r1, q1⟩ => ?_
  refine thn (hb pins s1 σ H1 _ I1 q1) fun u s2 ⟨y, H2, I2, r2, q2⟩ => ?_
  exact hf v u s2 x y H2 I2 r1 r2 q2

theorem pe_op {op : Operator} {r : R2} (ho : OpR X (binaryOp op) r) (ha : PE X a ta) (hb : PE X b tb) : PE X (.BinOp a op b pos) (tOp r ta tb) := by
  intro pins s σ H Q I h
  exact wpAny_BinOp (binT ha hb I h fun v u s2 x y H2 I2 rx ry q => ho pins s2 σ H2 x y v u Q I2 rx ry q)
theorem pe_un {op : UnaryOp} {r : V → Hp → VK → Prop} (ho : UnR X (unaryOp op) r) (ha : PE X a ta) : PE X (.UnaryOp op a pos) (tUn r ta) := by
  intro pins s σ H Q I h
  exact UnaryOp_ (thn (ha pins s σ H _ I h) fun v s1 ⟨x, H1, I1, r1, q1⟩ => ho pins s1 σ H1 x v Q I1 r1 q1)
/-- a op= e at a name: the name's slot i -/
theorem augR {op : Operator} {r : R2} (ho : OpR X (inplaceOp op) r) {pins : List (Addr × Obj)} {s : Shared} {σ : St} {H : Hp} {x y : V} {v u : Value} {Q : VK} (I : Inv X pins σ H s)
    (rx : RelV x v) (ry : RelV y u) (q : r x y H Q) : wpAny (model X.prog X.w) X.A (inplaceOp op v u) (EP X pins σ Q) X.xe s := ho pins s σ H x y v u Q I rx ry q

/-! ### ints -/
theorem opI {f : Value → Value → Sem Value} {C : Int → Int → Prop} {g : Int → Int → Int}
    (rule : ∀ (i j : Int) (t u : Tok) (s : Shared) (Q : Value → Shared → Prop) (E : Value → Shared → Prop), C i j → Q (.int (g i j) s.toks) { s with toks := s.toks + 1 } → wpAny (model X.prog X.w) X.A (f (.int i t) (.int j u)) Q E s) :
    OpR X f (rI C fun i j => .int (g i j)) := by
  intro pins s σ H x y v u Q I rx ry h
  obtain ⟨i, j, rfl, rfl, hc, q⟩ := h
  obtain ⟨t, rfl⟩ := rx
  obtain ⟨t', rfl⟩ := ry
  exact rule i j t t' s _ _ hc ⟨.int (g i j), H, I.tok _, ⟨_, rfl⟩, q⟩
theorem opI0 {f : Value → Value → Sem Value} {g : Int → Int → Int}
    (rule : ∀ (i j : Int) (t u : Tok) (s : Shared) (Q : Value → Shared → Prop) (E : Value → Shared → Prop), Q (.int (g i j) s.toks) { s with toks := s.toks + 1 } → wpAny (model X.prog X.w) X.A (f (.int i t) (.int j u)) Q E s) :
    OpR X f (rI0 fun i j => .int (g i j)) := by
  intro pins s σ H x y v u Q I rx ry h
  obtain ⟨i, j, rfl, rfl, q⟩ := h
  obtain ⟨t, rfl⟩ := rx
  obtain ⟨t', rfl⟩ := ry
  exact rule i j t t' s _ _ ⟨.int (g i j), H, I.tok _, ⟨_, rfl⟩, q⟩
theorem opB0 {f : Value → Value → Sem Value} {g : Int → Int → Bool}
    (rule : ∀ (i j : Int) (t u : Tok) (s : Shared) (Q : Value → Shared → Prop) (E : Value → Shared → Prop), Q (.bool (g i j)) s → wpAny (model X.prog X.w) X.A (f (.int i t) (.int j u)) Q E s) :
    OpR X f (rI0 fun i j => .bl (g i j)) := by
  intro pins s σ H x y v u Q I rx ry h
  obtain ⟨i, j, rfl, rfl, q⟩ := h
  obtain ⟨t, rfl⟩ := rx
  obtain ⟨t', rfl⟩ := ry
  exact rule i j t t' s _ _ ⟨.bl (g i j), H, I, rfl, q⟩

def CDiv (i j : Int) : Prop := 0 < j ∧ j < 1073741824
def CDivN (i j : Int) : Prop := j ≠ 0 ∧ j.natAbs < 1073741824
def CPow (i j : Int) : Prop := 0 ≤ j ∧ j ≤ 1000000 ∧ i.natAbs < 2 ^ 64
def CMul (i j : Int) : Prop := (-(2 ^ 64) < i ∧ i < 2 ^ 64) ∨ (-(2 ^ 64) < j ∧ j < 2 ^ 64)
theorem CMul.ok {i j : Int} (h : CMul i j) : IntMulOk i j := by
  rcases h with ⟨h1, h2⟩ | ⟨h1, h2⟩
  · exact .of_left (intBits_le_64 h1 h2)
  · exact .of_right (intBits_le_64 h1 h2)
theorem two_pow_nn (k : Nat) : (0 : Int) ≤ 2 ^ k := by
  rw [two_pow_cast]
  exact Int.natCast_nonneg _

theorem op_add : OpR X (binaryOp .Add) (rI0 fun i j => .int (i + j)) := opI0 fun _ _ _ _ _ _ _ q => add_int q
theorem op_sub : OpR X (binaryOp .Sub) (rI0 fun i j => .int (i - j)) := opI0 fun _ _ _ _ _ _ _ q => sub_int q
theorem op_mul : OpR X (binaryOp .Mult) (rI CMul fun i j => .int (i * j)) := opI fun _ _ _ _ _ _ _ hc q => mul_int q hc.ok
/-- // by a positive divisor -/
theorem op_fdiv : OpR X (binaryOp .FloorDiv) (rI CDiv fun i j => .int (i / j)) := opI fun i j _ _ _ _ _ hc q => by
  have h1 : (0 : Int) < j := hc.1
  have h2 : j < 1073741824 := hc.2
  exact floordiv_int (by omega) (by rw [Int.fdiv_eq_ediv_of_nonneg i (by omega)]; exact q) (.inl (PyProof.noPylong_small (by omega)))
theorem op_fdivN : OpR X (binaryOp .FloorDiv) (rI CDivN fun i j => .int (i.fdiv j)) := opI fun _ _ _ _ _ _ _ hc q => floordiv_int hc.1 q (.inl (PyProof.noPylong_small hc.2))
/-- % by a positive divisor of any size -/
theorem op_mod : OpR X (binaryOp .Mod) (rI (fun _ j => 0 < j) fun i j => .int (i % j)) := opI fun i j _ _ _ _ _ hc q => by
  have h1 : (0 : Int) < j := hc
  exact mod_int' (by omega) (by rw [Int.fmod_eq_emod_of_nonneg i (by omega)]; exact q)
theorem op_modN : OpR X (binaryOp .Mod) (rI (fun _ j => j ≠ 0) fun i j => .int (i.fmod j)) := opI fun _ _ _ _ _ _ _ hc q => mod_int' hc q
theorem op_pow : OpR X (binaryOp .Pow) (rI CPow fun i j => .int (i ^ j.toNat)) := opI fun _ _ _ _ _ _ _ hc q => pow_int_small hc.1 hc.2.1 hc.2.2 q
theorem op_shl : OpR X (binaryOp .LShift) (rI CPow fun i j => .int (i * 2 ^ j.toNat)) := opI fun _ _ _ _ _ _ _ hc q => lshift_int_small hc.1 hc.2.1 hc.2.2 q
theorem op_shr : OpR X (binaryOp .RShift) (rI (fun _ j => 0 ≤ j) fun i j => .int (i / 2 ^ j.toNat)) := opI fun i j _ _ _ _ _ hc q =>
  rshift_int hc (by rw [Int.fdiv_eq_ediv_of_nonneg i (two_pow_nn _)]; exact q)
theorem op_and : OpR X (binaryOp .BitAnd) (rI0 fun i j => .int (Builtin.bitAnd i j)) := opI0 fun _ _ _ _ _ _ _ q => and_int q
theorem op_or : OpR X (binaryOp .BitOr) (rI0 fun i j => .int (Builtin.bitOr i j)) := opI0 fun _ _ _ _ _ _ _ q => or_int q
theorem op_xor : OpR X (binaryOp .BitXor) (rI0 fun i j => .int (Builtin.bitXor i j)) := opI0 fun _ _ _ _ _ _ _ q => xor_int q

theorem iop_add : OpR X (inplaceOp .Add) (rI0 fun i j => .int (i + j)) := opI0 fun _ _ _ _ _ _ _ q => iadd_int q
theorem iop_sub : OpR X (inplaceOp .Sub) (rI0 fun i j => .int (i - j)) := opI0 fun _ _ _ _ _ _ _ q => isub_int q
theorem iop_mul : OpR X (inplaceOp .Mult) (rI CMul fun i j => .int (i * j)) := opI fun _ _ _ _ _ _ _ hc q => imul_int q hc.ok
theorem iop_fdiv : OpR X (inplaceOp .FloorDiv) (rI CDiv fun i j => .int (i / j)) := opI fun i j _ _ _ _ _ hc q => by
  have h1 : (0 : Int) < j := hc.1
  have h2 : j < 1073741824 := hc.2
  exact ifloordiv_int (by omega) (by rw [Int.fdiv_eq_ediv_of_nonneg i (by omega)]; exact q) (.inl (PyProof.noPylong_small (by omega)))
theorem iop_mod : OpR X (inplaceOp .Mod) (rI (fun _ j => 0 < j) fun i j => .int (i % j)) := opI fun i j _ _ _ _ _ hc q => by
  have h1 : (0 : Int) < j := hc
  exact imod_int (by omega) (by rw [Int.fmod_eq_emod_of_nonneg i (by omega)]; exact q)
theorem iop_shl : OpR X (inplaceOp .LShift) (rI CPow fun i j => .int (i * 2 ^ j.toNat)) := opI fun _ _ _ _ _ _ _ hc q => ilshift_int_small hc.1 hc.2.1 hc.2.2 q
theorem iop_shr : OpR X (inplaceOp .RShift) (rI (fun _ j => 0 ≤ j) fun i j => .int (i / 2 ^ j.toNat)) := opI fun i j _ _ _ _ _ hc q =>
  irshift_int hc (by rw [Int.fdiv_eq_ediv_of_nonneg i (two_pow_nn _)]; exact q)
theorem iop_and : OpR X (inplaceOp .BitAnd) (rI0 fun i j => .int (Builtin.bitAnd i j)) := opI0 fun _ _ _ _ _ _ _ q => iand_int q
theorem iop_or : OpR X (inplaceOp .BitOr) (rI0 fun i j => .int (Builtin.bitOr i j)) := opI0 fun _ _ _ _ _ _ _ q => ior_int q
theorem iop_xor : OpR X (inplaceOp .BitXor) (rI0 fun i j => .int (Builtin.bitXor i j)) := opI0 fun _ _ _ _ _ _ _ q => ixor_int q

theorem unI {f : Value → Sem Value} {g : Int → Int}
    (rule : ∀ (i : Int) (t : Tok) (s : Shared) (Q : Value → Shared → Prop) (E : Value → Shared → Prop), Q (.int (g i) s.toks) { s with toks := s.toks + 1 } → wpAny (model X.prog X.w) X.A (f (.int i t)) Q E s) :
    UnR X f (rU fun i => .int (g i)) := by
  intro pins s σ H x v Q I rx h
  obtain ⟨i, rfl, q⟩ := h
  obtain ⟨t, rfl⟩ := rx
  exact rule i t s _ _ ⟨.int (g i), H, I.tok _, ⟨_, rfl⟩, q⟩
theorem un_neg : UnR X (unaryOp .USub) (rU fun i => .int (-i)) := unI fun _ _ _ _ _ q => neg_int q
theorem un_inv : UnR X (unaryOp .Invert) (rU fun i => .int (Builtin.bitNot i)) := unI fun _ _ _ _ _ q => invert_int q

/-! ### bools among ints: n += (a < b) -/
theorem op_add_ib : OpR X (binaryOp .Add) (fun x y H Q => ∃ i k, x = .int i ∧ y = .bl k ∧ Q (.int (i + b2i k)) H) := by
  intro pins s σ H x y v u Q I rx ry h
  obtain ⟨i, k, rfl, rfl, q⟩ := h
  obtain ⟨t, rfl⟩ := rx
  cases ry
  exact add_int_bool ⟨.int (i + b2i k), H, I.tok _, ⟨_, rfl⟩, q⟩
end

/-! ### comparisons -/
/-- the scalars that == tells apart as data does -/
def scal : V → V → Bool
  | .non, .non => true | .non, .int _ => true | .int _, .non => true | .non, .bl _ => true | .bl _, .non => true | .non, .str _ => true | .str _, .non => true
  | .int _, .int _ => true | .bl _, .bl _ => true | .str _, .str _ => true | .byt _, .byt _ => true
  | .int _, .str _ => true | .str _, .int _ => true | .bl _, .str _ => true | .str _, .bl _ => true
  | _, _ => false
def rEq : R2 := fun x y H Q => scal x y = true ∧ Q (.bl (decide (x = y))) H
def rNe : R2 := fun x y H Q => scal x y = true ∧ Q (.bl (!decide (x = y))) H

theorem dec_int {i j : Int} : decide (V.int i = V.int j) = (i == j) := by
  rw [Bool.eq_iff_iff]
  simp
theorem dec_bl {i j : Bool} : decide (V.bl i = V.bl j) = (i == j) := by
  rw [Bool.eq_iff_iff]
  simp
theorem dec_str {i j : Str} : decide (V.str i = V.str j) = (i == j) := by
  rw [Bool.eq_iff_iff]
  simp
theorem dec_byt {i j : Array UInt8} : decide (V.byt i = V.byt j) = (i.toList == j.toList) := by
  rw [Bool.eq_iff_iff]
  cases i
  cases j
  simp

section
variable {X : Cx} {a b c : Expr} {ta tb tc : TE} {pos : Pos}
theorem fin_bl {pins : List (Addr × Obj)} {σ : St} {H : Hp} {s : Shared} {Q : VK} {k k' : Bool} (I : Inv X pins σ H s) (q : Q (.bl k) H) (e : k = k') : EP X pins σ Q (.bool k') s := by
  subst e
  exact ⟨.bl k, H, I, rfl, q⟩
theorem op_eq : OpR X (compareOp .Eq) rEq := by
  intro pins s σ H x y v u Q I rx ry h
  obtain ⟨hs, q⟩ := h
  cases x with
  | non =>
    cases rx
    cases y with
    | non => cases ry; exact PySem.EqNone.eq_none_none (fin_bl I q (by simp))
    | bl j => cases ry; exact PySem.EqNone.eq_none_bool (fin_bl I q (by simp))
    | int j => obtain ⟨t', rfl⟩ := ry; exact PySem.EqNone.eq_none_int (fin_bl I q (by simp))
    | str j => obtain ⟨t', rfl⟩ := ry; exact PySem.EqNone.eq_none_str (fin_bl I q (by simp))
    | _ => exact absurd (show false = true from hs) Bool.false_ne_true
  | bl i =>
    cases rx
    cases y with
    | non => cases ry; exact PySem.EqNone.eq_bool_none (fin_bl I q (by simp))
    | bl j => cases ry; exact eq_bool (fin_bl I q dec_bl)
    | str j => obtain ⟨t', rfl⟩ := ry; exact PySem.EqMixed.eq_bool_str (fin_bl I q (by simp))
    | _ => exact absurd (show false = true from hs) Bool.false_ne_true
  | int i =>
    obtain ⟨t, rfl⟩ := rx
    cases y with
    | non => cases ry; exact PySem.EqNone.eq_int_none (fin_bl I q (by simp))
    | int j => obtain ⟨t', rfl⟩ := ry; exact eq_int (fin_bl I q dec_int)
    | str j => obtain ⟨t', rfl⟩ := ry; exact PySem.EqMixed.eq_int_str (fin_bl I q (by simp))
    | _ => exact absurd (show false = true from hs) Bool.false_ne_true
  | str i =>
    obtain ⟨t, rfl⟩ := rx
    cases y with
    | non => cases ry; exact PySem.EqNone.eq_str_none (fin_bl I q (by simp))
    | bl j => cases ry; exact PySem.EqMixed.eq_str_bool (fin_bl I q (by simp))
    | int j => obtain ⟨t', rfl⟩ := ry; exact PySem.EqMixed.eq_str_int (fin_bl I q (by simp))
    | str j => obtain ⟨t', rfl⟩ := ry; exact eq_str (fin_bl I q dec_str)
    | _ => exact absurd (show false = true from hs) Bool.false_ne_true
  | byt i =>
    obtain ⟨t, rfl⟩ := rx
    cases y with
    | byt j => obtain ⟨t', rfl⟩ := ry; exact PySem.W.eq_bytes (fin_bl I q dec_byt)
    | _ => exact absurd (show false = true from hs) Bool.false_ne_true
  | _ => cases y <;> exact absurd (show false = true from hs) Bool.false_ne_true
theorem op_ne : OpR X (compareOp .NotEq) rNe := by
  intro pins s σ H x y v u Q I rx ry h
  obtain ⟨hs, q⟩ := h
  cases x with
  | non =>
    cases rx
    cases y with
    | non => cases ry; exact PySem.EqNone.ne_none_none (fin_bl I q (by simp))
    | bl j => cases ry; exact PySem.EqNone.ne_none_bool (fin_bl I q (by simp))
    | int j => obtain ⟨t', rfl⟩ := ry; exact PySem.EqNone.ne_none_int (fin_bl I q (by simp))
    | str j => obtain ⟨t', rfl⟩ := ry; exact PySem.EqNone.ne_none_str (fin_bl I q (by simp))
    | _ => exact absurd (show false = true from hs) Bool.false_ne_true
  | bl i =>
    cases rx
    cases y with
    | non => cases ry; exact PySem.EqNone.ne_bool_none (fin_bl I q (by simp))
    | bl j => cases ry; exact ne_bool (fin_bl I q (congrArg not dec_bl))
    | str j => obtain ⟨t', rfl⟩ := ry; exact PySem.EqMixed.ne_bool_str (fin_bl I q (by simp))
    | _ => exact absurd (show false = true from hs) Bool.false_ne_true
  | int i =>
    obtain ⟨t, rfl⟩ := rx
    cases y with
    | non => cases ry; exact PySem.EqNone.ne_int_none (fin_bl I q (by simp))
    | int j => obtain ⟨t', rfl⟩ := ry; exact ne_int (fin_bl I q (congrArg not dec_int))
    | str j => obtain ⟨t', rfl⟩ := ry; exact PySem.EqMixed.ne_int_str (fin_bl I q (by simp))
    | _ => exact absurd (show false = true from hs) Bool.false_ne_true
  | str i =>
    obtain ⟨t, rfl⟩ := rx
    cases y with
    | non => cases ry; exact PySem.EqNone.ne_str_none (fin_bl I q (by simp))
    | bl j => cases ry; exact PySem.EqMixed.ne_str_bool (fin_bl I q (by simp))
    | int j => obtain ⟨t', rfl⟩ := ry; exact PySem.EqMixed.ne_str_int (fin_bl I q (by simp))
    | str j => obtain ⟨t', rfl⟩ := ry; exact ne_str (fin_bl I q (congrArg not dec_str))
    | _ => exact absurd (show false = true from hs) Bool.false_ne_true
  | byt i =>
    obtain ⟨t, rfl⟩ := rx
    cases y with
    | byt j => obtain ⟨t', rfl⟩ := ry; exact PySem.W.ne_bytes (fin_bl I q (congrArg not dec_byt))
    | _ => exact absurd (show false = true from hs) Bool.false_ne_true
  | _ => cases y <;> exact absurd (show false = true from hs) Bool.false_ne_true

theorem op_lt : OpR X (compareOp .Lt) (rI0 fun i j => .bl (decide (i < j))) := opB0 fun _ _ _ _ _ _ _ q => lt_int q
theorem op_le : OpR X (compareOp .LtE) (rI0 fun i j => .bl (decide (i ≤ j))) := opB0 fun _ _ _ _ _ _ _ q => le_int q
theorem op_gt : OpR X (compareOp .Gt) (rI0 fun i j => .bl (decide (j < i))) := opB0 fun _ _ _ _ _ _ _ q => gt_int q
theorem op_ge : OpR X (compareOp .GtE) (rI0 fun i j => .bl (decide (j ≤ i))) := opB0 fun _ _ _ _ _ _ _ q => ge_int q
theorem op_lt_str : OpR X (compareOp .Lt) (fun x y H Q => ∃ i j, x = .str i ∧ y = .str j ∧ Q (.bl (decide (i.cps.toList < j.cps.toList))) H) := by
  intro pins s σ H x y v u Q I rx ry h
  obtain ⟨i, j, rfl, rfl, q⟩ := h
  obtain ⟨t, rfl⟩ := rx
  obtain ⟨t', rfl⟩ := ry
  exact lt_str (fin_bl I q rfl)
/-- the one string within the other -/
theorem op_in_str : OpR X (compareOp .In) (fun x y H Q => ∃ i j, x = .str i ∧ y = .str j ∧ Q (.bl (!(Builtin.Str.occurrences j i 0 j.length 1).isEmpty)) H) := by
  intro pins s σ H x y v u Q I rx ry h
  obtain ⟨i, j, rfl, rfl, q⟩ := h
  obtain ⟨t, rfl⟩ := rx
  obtain ⟨t', rfl⟩ := ry
  exact in_str (fin_bl I q rfl)

/-- is None, is not None: the right side a value none -/
theorem op_isN : OpR X (compareOp .Is) (fun x y H Q => y = .non ∧ Q (.bl (decide (x = .non))) H) := by
  intro pins s σ H x y v u Q I rx ry h
  obtain ⟨rfl, q⟩ := h
  cases ry
  refine is_none_gen (fin_bl I q ?_)
  cases x <;> first
    | (cases rx; rfl)
    | (obtain ⟨t, rfl⟩ := rx; rfl)
theorem op_notN : OpR X (compareOp .IsNot) (fun x y H Q => y = .non ∧ Q (.bl (!decide (x = .non))) H) := by
  intro pins s σ H x y v u Q I rx ry h
  obtain ⟨rfl, q⟩ := h
  cases ry
  refine isnot_none_gen (fin_bl I q ?_)
  cases x <;> first
    | (cases rx; rfl)
    | (obtain ⟨t, rfl⟩ := rx; rfl)

theorem op_notin_str : OpR X (compareOp .NotIn) (fun x y H Q => ∃ i j, x = .str i ∧ y = .str j ∧ Q (.bl (!(!(Builtin.Str.occurrences j i 0 j.length 1).isEmpty))) H) := by
  intro pins s σ H x y v u Q I rx ry h
  obtain ⟨i, j, rfl, rfl, q⟩ := h
  obtain ⟨t, rfl⟩ := rx
  obtain ⟨t', rfl⟩ := ry
  exact notIn_str (fin_bl I q rfl)
/-- is, is not of two objects that are tracked lists or instances -/
def isObj : HO → Bool
  | .lst _ => true
  | .ins _ _ _ => true
  | _ => false
theorem obj_there {pins : List (Addr × Obj)} {s : Shared} {σ : St} {H : Hp} {a : Addr} {o : HO} (I : Inv X pins σ H s) (h : H a = some o) (p : isObj o = true) : ∃ ob, s.heap.get? a = some ob ∧ ob.cls ≠ .type "tuple" := by
  cases o with
  | lst xs =>
    obtain ⟨_, its, n, _, e⟩ : xs.length ≤ sizeLine ∧ ∃ (its : List Value) (n : Nat), Vals xs its ∧ s.heap.get? a = some { cls := .type "list", data := .seq its.toArray n } := I.hok a _ h
    exact ⟨_, e, (by show Value.type "list" ≠ .type "tuple"; decide +kernel)⟩
  | ins C dx fs =>
    have x := I.hok a _ h
    obtain ⟨_, _, _, e, _⟩ := x
    exact ⟨_, e, (by show Value.ref C ≠ .type "tuple"; exact fun z => by cases z)⟩
  | _ => exact absurd (show false = true from p) Bool.false_ne_true
theorem op_is_ref : OpR X (compareOp .Is) (fun x y H Q => ∃ a b oa ob, x = .ref a ∧ y = .ref b ∧ H a = some oa ∧ isObj oa = true ∧ H b = some ob ∧ isObj ob = true ∧ Q (.bl (decide (a = b))) H) := by
  intro pins s σ H x y v u Q I rx ry h
  obtain ⟨a, b, oa, ob, rfl, rfl, ha, pa, hb, pb, q⟩ := h
  cases rx
  cases ry
  obtain ⟨o1, e1, n1⟩ := obj_there I ha pa
  obtain ⟨o2, e2, _⟩ := obj_there I hb pb
  by_cases z : a = b
  · subst z
    exact wpAny_is_ref_self (fin_bl I q (by simp))
  · exact wpAny_is_ref_other z e1 e2 n1 (fin_bl I q (by simp [z]))
theorem op_isnot_ref : OpR X (compareOp .IsNot) (fun x y H Q => ∃ a b oa ob, x = .ref a ∧ y = .ref b ∧ H a = some oa ∧ isObj oa = true ∧ H b = some ob ∧ isObj ob = true ∧ Q (.bl (!decide (a = b))) H) := by
  intro pins s σ H x y v u Q I rx ry h
  obtain ⟨a, b, oa, ob, rfl, rfl, ha, pa, hb, pb, q⟩ := h
  cases rx
  cases ry
  obtain ⟨o1, e1, n1⟩ := obj_there I ha pa
  obtain ⟨o2, e2, _⟩ := obj_there I hb pb
  by_cases z : a = b
  · subst z
    exact wpAny_isNot_ref_self (fin_bl I q (by simp))
  · exact wpAny_isNot_ref_other z e1 e2 n1 (fin_bl I q (by simp [z]))

/-- two rules for one operation: by cases -/
theorem OpR.or {f : Value → Value → Sem Value} {r r' : R2} (h : OpR X f r) (h' : OpR X f r') : OpR X f (fun x y H Q => r x y H Q ∨ r' x y H Q) := by
  intro pins s σ H x y v u Q I rx ry q
  rcases q with q | q
  · exact h pins s σ H x y v u Q I rx ry q
  · exact h' pins s σ H x y v u Q I rx ry q

theorem nomark (b : Expr) {op : CmpOp} (h : op ≠ .In := by decide) (h2 : op ≠ .NotIn := by decide) : behindInMarks op b = false := by
  have e1 : (op == CmpOp.In) = false := by cases op <;> first | rfl | exact absurd rfl h
  have e2 : (op == CmpOp.NotIn) = false := by cases op <;> first | rfl | exact absurd rfl h2
  cases b <;> simp [behindInMarks, e1, e2]
/-- a comparison as a value; hm: nomark b, or (for in, not in) by with_unfolding_all rfl -/
theorem pe_cmpR {op : CmpOp} {r : R2} (ho : OpR X (compareOp op) r) (ha : PE X a ta) (hb : PE X b tb) (hm : behindInMarks op b = false) : PE X (.Compare a [op] [b] pos) (tOp r ta tb) := by
  intro pins s σ H Q I h
  exact wpAny_Compare1 (binT ha hb I h fun v u s2 x y H2 I2 rx ry q => ho pins s2 σ H2 x y v u Q I2 rx ry q) hm
/-- a reading of a value as a test -/
def tTest (t : TE) : TT := fun σ H Q => t σ H fun x H' => ∃ k, x = .bl k ∧ Q k H'
theorem pt_cmpR {op : CmpOp} {r : R2} (ho : OpR X (compareOp op) r) (ha : PE X a ta) (hb : PE X b tb) (hm : behindInMarks op b = false) : PT X (.Compare a [op] [b] pos) (tTest (tOp r ta tb)) := by
  intro pins s σ H Q I h
  refine wpAny_isTrue_Compare1 (thn (ha pins s σ H _ I h) fun v s1 ⟨x, H1, I1, r1, q1⟩ => thn (hb pins s1 σ H1 _ I1 q1) fun u s2 ⟨y, H2, I2, r2, q2⟩ =>
    thn (ho pins s2 σ H2 x y v u _ I2 r1 r2 q2) fun c s3 ⟨z, H3, I3, r3, k, e, q3⟩ => ?_) hm
  subst e
  cases r3
  exact wpAny_truthy_bool ⟨H3, I3, q3⟩
/-- a op1 b op2 c -/
def tChain (r r' : R2) (ta tb tc : TE) : TE := fun σ H Q => ta σ H fun x H1 => tb σ H1 fun y H2 => r x y H2 fun z H3 => ∃ k, z = .bl k ∧
  (if k = true then tc σ H3 fun w' H4 => r' y w' H4 Q else Q (.bl false) H3)
theorem pe_chain {op op' : CmpOp} {r r' : R2} (ho : OpR X (compareOp op) r) (ho' : OpR X (compareOp op') r') (ha : PE X a ta) (hb : PE X b tb) (hc : PE X c tc)
    (hm : lastMarks [op, op'] [b, c] = false := by with_unfolding_all rfl) : PE X (.Compare a [op, op'] [b, c] pos) (tChain r r' ta tb tc) := by
  intro pins s σ H Q I h
  refine Compare_chain (thn (ha pins s σ H _ I h) fun v s1 ⟨x, H1, I1, r1, q1⟩ => chain_link (thn (hb pins s1 σ H1 _ I1 q1) fun u s2 ⟨y, H2, I2, r2, q2⟩ =>
    thn (ho pins s2 σ H2 x y v u _ I2 r1 r2 q2) fun d s3 ⟨z, H3, I3, r3, k, e, q3⟩ => ?_)) hm
  subst e
  cases r3
  refine wpAny_truthy_bool ?_
  cases k with
  | false => exact ite_ff ⟨.bl false, H3, I3, rfl, q3⟩
  | true => exact ite_tt (chain_last (thn (hc pins s3 σ H3 _ I3 q3) fun w' s4 ⟨z', H4, I4, r4, q4⟩ => ho' pins s4 σ H4 y z' u w' Q I4 r2 r4 q4))
theorem pt_chain {op op' : CmpOp} {r r' : R2} (ho : OpR X (compareOp op) r) (ho' : OpR X (compareOp op') r') (ha : PE X a ta) (hb : PE X b tb) (hc : PE X c tc)
    (hm : lastMarks [op, op'] [b, c] = false := by with_unfolding_all rfl) : PT X (.Compare a [op, op'] [b, c] pos) (tTest (tChain r r' ta tb tc)) := by
  intro pins s σ H Q I h
  refine isTrue_chain (thn (ha pins s σ H _ I h) fun v s1 ⟨x, H1, I1, r1, q1⟩ => test_link (thn (hb pins s1 σ H1 _ I1 q1) fun u s2 ⟨y, H2, I2, r2, q2⟩ =>
    thn (ho pins s2 σ H2 x y v u _ I2 r1 r2 q2) fun d s3 ⟨z, H3, I3, r3, k, e, q3⟩ => ?_)) hm
  subst e
  cases r3
  refine wpAny_truthy_bool ?_
  cases k with
  | false =>
    obtain ⟨k', e', q'⟩ := q3
    cases e'
    exact ite_ff ⟨H3, I3, q'⟩
  | true =>
    refine ite_tt (test_last (thn (hc pins s3 σ H3 _ I3 q3) fun w' s4 ⟨z', H4, I4, r4, q4⟩ => thn (ho' pins s4 σ H4 y z' u w' _ I4 r2 r4 q4) fun d' s5 ⟨z2, H5, I5, r5, k2, e2, q5⟩ => ?_))
    subst e2
    cases r5
    exact wpAny_truthy_bool ⟨H5, I5, q5⟩

/-! ### truth -/
/-- a value's truth by the abstract heap -/
def TruV (K : PySem.W.Frag) (x : V) (H : Hp) (k : Bool) : Prop :=
  match x with
  | .non => k = false
  | .bl b => k = b
  | .int i => k = (i != 0)
  | .str y => y.length ≤ sizeLine ∧ k = ((y.length : Int) != 0)
  | .byt y => y.size ≤ sizeLine ∧ k = ((y.size : Int) != 0)
  | .ref p => (∃ xs, SqL K H p xs ∧ k = !xs.isEmpty) ∨ (∃ xs, SqT K H p xs ∧ k = !xs.isEmpty) ∨ ∃ kvs, H p = some (.dK kvs) ∧ k = !kvs.isEmpty
  | _ => False
theorem isEmpty_kv {κ : Type} {kvs : List (κ × V)} {vs : List (κ × Value)} (r : KV kvs vs) : (!vs.isEmpty) = !kvs.isEmpty := by
  cases r <;> rfl
theorem isEmpty_of {xs : List V} {its : List Value} (r : Vals xs its) : (!its.toArray.isEmpty) = !xs.isEmpty := by
  cases r <;> simp
theorem line63 : (sizeLine : Nat) < 2 ^ 63 := by rw [sizeLine_eq]; decide
theorem tru_ok : TruR X (fun x H Q => ∃ k, TruV X.K x H k ∧ Q k H) := by
  intro pins s σ H x v Q I rx h
  obtain ⟨k, e, q⟩ := h
  have hl := line63
  have hs : sizeLine = 16777216 := sizeLine_eq
  cases x with
  | non =>
    cases rx
    have e' : k = false := e
    subst e'
    exact truthy_none ⟨H, I, q⟩
  | bl b =>
    cases rx
    have e' : k = b := e
    subst e'
    exact wpAny_truthy_bool ⟨H, I, q⟩
  | int i =>
    obtain ⟨t, rfl⟩ := rx
    have e' : k = (i != 0) := e
    subst e'
    exact PySem.P.truthy_int ⟨H, I, q⟩
  | str y =>
    obtain ⟨t, rfl⟩ := rx
    obtain ⟨hy, e'⟩ : y.length ≤ sizeLine ∧ k = ((y.length : Int) != 0) := e
    subst e'
    exact PySem.P.truthy_str (by omega) ⟨H, I.tok _, q⟩
  | byt y =>
    obtain ⟨t, rfl⟩ := rx
    obtain ⟨hy, e'⟩ : y.size ≤ sizeLine ∧ k = ((y.size : Int) != 0) := e
    subst e'
    exact PySem.W.truthy_bytes (by omega) ⟨H, I.tok _, q⟩
  | ref p =>
    cases rx
    have e' : (∃ xs, SqL X.K H p xs ∧ k = !xs.isEmpty) ∨ (∃ xs, SqT X.K H p xs ∧ k = !xs.isEmpty) ∨ ∃ kvs, H p = some (.dK kvs) ∧ k = !kvs.isEmpty := e
    rcases e' with ⟨xs, hx, e'⟩ | ⟨xs, hx, e'⟩ | ⟨kvs, hx, e'⟩
    · subst e'
      obtain ⟨its, r, pl, hz⟩ := I.list hx
      have hlen := r.length
      exact wpAny_truthy_list pl.isList (by simp only [List.size_toArray]; omega) ⟨H, I.tok _, by rw [isEmpty_of r]; exact q⟩
    · subst e'
      obtain ⟨its, r, pl, hz⟩ := I.tuple hx
      have hlen := r.length
      exact truthy_tuple pl (by simp only [List.size_toArray]; omega) ⟨H, I.tok _, by rw [isEmpty_of r]; exact q⟩
    · subst e'
      obtain ⟨hz, hS, vs, r, m⟩ : kvs.length ≤ sizeLine ∧ (p == sysModules) = false ∧ ∃ vs, KV kvs vs ∧ s.heap.DictOf (mixKind X.prog X.w) p vs := I.hok p _ hx
      have hlen : kvs.length = vs.length := Paired.length r
      exact wpAny_truthy_dict hS m (by omega) ⟨H, I.tok _, by rw [isEmpty_kv r]; exact q⟩
  | _ => exact (show False from e).elim
/-- any expression whose test is its value's truth (a name, a call, a subscript, a field ..: he by fun _ => rfl) -/
theorem pt_truth (ha : PE X a ta) (he : ∀ whole, isTrue a X.env whole = (do let v ← whole; standAt a.pos; holding [v] (truthy v))) :
    PT X a (fun σ H Q => ta σ H fun x H' => ∃ k, TruV X.K x H' k ∧ Q k H') := by
  intro pins s σ H Q I h
  exact isTrue_plain (thn (ha pins s σ H _ I h) fun v s1 ⟨x, H1, I1, r1, q1⟩ => tru_ok pins s1 σ H1 x v Q I1 r1 q1) (he _)

/-! ### strs and bytes -/
theorem pe_byt {x : List UInt8} {k : Nat} : PE X (.Constant (.bytes x) k pos) (fun _ H Q => Q (.byt x.toArray) H) := fun _ _ _ H _ I h => PySem.W.Constant_bytes ⟨.byt x.toArray, H, I.tok _, ⟨_, rfl⟩, h⟩
theorem op_add_str : OpR X (binaryOp .Add) (fun x y H Q => ∃ i j, x = .str i ∧ y = .str j ∧ i.length + j.length ≤ sizeLine ∧ Q (.str (i ++ j)) H) := by
  intro pins s σ H x y v u Q I rx ry h
  obtain ⟨i, j, rfl, rfl, hz, q⟩ := h
  obtain ⟨t, rfl⟩ := rx
  obtain ⟨t', rfl⟩ := ry
  exact add_str (fun t' tk => ⟨.str (i ++ j), H, I.tok _, ⟨_, rfl⟩, q⟩) hz
theorem iop_add_str : OpR X (inplaceOp .Add) (fun x y H Q => ∃ i j, x = .str i ∧ y = .str j ∧ i.length + j.length ≤ sizeLine ∧ Q (.str (i ++ j)) H) := by
  intro pins s σ H x y v u Q I rx ry h
  obtain ⟨i, j, rfl, rfl, hz, q⟩ := h
  obtain ⟨t, rfl⟩ := rx
  obtain ⟨t', rfl⟩ := ry
  exact iadd_str (fun t' tk => ⟨.str (i ++ j), H, I.tok _, ⟨_, rfl⟩, q⟩) hz
theorem op_add_byt : OpR X (binaryOp .Add) (fun x y H Q => ∃ i j, x = .byt i ∧ y = .byt j ∧ i.size + j.size ≤ 16777216 ∧ Q (.byt (i ++ j)) H) := by
  intro pins s σ H x y v u Q I rx ry h
  obtain ⟨i, j, rfl, rfl, hz, q⟩ := h
  obtain ⟨t, rfl⟩ := rx
  obtain ⟨t', rfl⟩ := ry
  exact PySem.W.KBy.add_bytes hz (fun t' tk => ⟨.byt (i ++ j), H, I.tok _, ⟨_, rfl⟩, q⟩)

def PlainIxT (b : Expr) : Prop := ∀ o i, subscripted b false o i = operate [o, i] (getItem o i)
/-- s[i], 0 ≤ i < len -/
theorem pe_item_str (ha : PE X a ta) (hb : PE X b tb) (hs : PlainIxT b) :
    PE X (.Subscript a b pos) (tOp (fun x y H Q => ∃ z i c, x = .str z ∧ y = .int i ∧ 0 ≤ i ∧ i < 2 ^ 63 ∧ i < z.length ∧ z.cps[i.toNat]? = some c ∧ Q (.str ⟨#[c]⟩) H) ta tb) := by
  intro pins s σ H Q I h
  refine Subscript_ (binT ha hb I h fun v u s2 x y H2 I2 rx ry q => ?_)
  obtain ⟨z, i, c, rfl, rfl, h0, h63, h1, hc, q⟩ := q
  obtain ⟨t, rfl⟩ := rx
  obtain ⟨t', rfl⟩ := ry
  have e : seqIndex? i z.length = some i.toNat := PySem.StrLaws.seqIndex_nonneg h0 h1
  exact tail_any (typeIs_str s2 z t) slot_str_getitem.lookup (getItem_str (c := c) (by
    have e1 : decide (i < -(2 ^ 63 : Int)) = false := decide_eq_false (by omega)
    have e2 : decide (i ≥ 2 ^ 63) = false := decide_eq_false (by omega)
    rw [e1, e2] <;> rfl) (by rw [e]; exact hc) ⟨.str ⟨#[c]⟩, H2, I2.tok _, ⟨_, rfl⟩, q⟩) (hs _ _)
/-- b[i], 0 ≤ i < len -/
theorem pe_item_byt (ha : PE X a ta) (hb : PE X b tb) (hs : PlainIxT b) :
    PE X (.Subscript a b pos) (tOp (fun x y H Q => ∃ (z : List UInt8) (i : Int), x = .byt z.toArray ∧ y = .int i ∧ z.length ≤ sizeLine ∧ 0 ≤ i ∧ i < z.length ∧ Q (.int ((z.getD i.toNat 0).toNat : Nat)) H) ta tb) := by
  intro pins s σ H Q I h
  refine Subscript_ (binT ha hb I h fun v u s2 x y H2 I2 rx ry q => ?_)
  obtain ⟨z, i, rfl, rfl, hz, h0, h1, q⟩ := q
  obtain ⟨t, rfl⟩ := rx
  obtain ⟨t', rfl⟩ := ry
  have hl : sizeLine = 16777216 := sizeLine_eq
  exact tail_any (PySem.W.typeIs_bytes s2 z.toArray t) PySem.W.FB.slot_bytes_getitem.lookup (PySem.W.getItem_bytes (by omega) h0 h1 ⟨.int ((z.getD i.toNat 0).toNat : Nat), H2, I2.tok _, ⟨_, rfl⟩, q⟩) (hs _ _)

/-! ### scalar builtins, by CallR -/
theorem vals1 {x : V} {us : List Value} (r : Vals [x] us) : ∃ u, us = [u] ∧ RelV x u := by
  cases r with
  | cons r1 r2 => cases r2; exact ⟨_, rfl, r1⟩
theorem vals2 {x y : V} {us : List Value} (r : Vals [x, y] us) : ∃ u w', us = [u, w'] ∧ RelV x u ∧ RelV y w' := by
  cases r with
  | cons r1 r2 =>
    cases r2 with
    | cons r3 r4 => cases r4; exact ⟨_, _, rfl, r1, r3⟩
theorem call_abs : CallR X (.builtin "abs") (fun xs H Q => ∃ i, xs = [.int i] ∧ Q (.int (if i < 0 then -i else i)) H) := by
  intro pins s σ H xs us Q I r h
  obtain ⟨i, rfl, q⟩ := h
  obtain ⟨u, rfl, t, rfl⟩ := vals1 r
  exact call_abs_int fun u tk => ⟨.int (if i < 0 then -i else i), H, I.tok _, ⟨_, rfl⟩, q⟩
theorem call_max2 (hc : X.calm = true) : CallR X (.builtin "max") (fun xs H Q => ∃ i j, xs = [.int i, .int j] ∧ Q (.int (if j > i then j else i)) H) := by
  intro pins s σ H xs us Q I r h
  obtain ⟨i, j, rfl, q⟩ := h
  obtain ⟨u, w', rfl, ⟨t, rfl⟩, ⟨t', rfl⟩⟩ := vals2 r
  refine max_two_ints (I.ok.hd hc) fun h' tk k => ⟨_, H, I.kept k, ?_, q⟩
  by_cases hj : j > i
  · rw [if_pos hj, if_pos hj]; exact ⟨_, rfl⟩
  · rw [if_neg hj, if_neg hj]; exact ⟨_, rfl⟩
theorem call_min2 (hc : X.calm = true) : CallR X (.builtin "min") (fun xs H Q => ∃ i j, xs = [.int i, .int j] ∧ Q (.int (if j < i then j else i)) H) := by
  intro pins s σ H xs us Q I r h
  obtain ⟨i, j, rfl, q⟩ := h
  obtain ⟨u, w', rfl, ⟨t, rfl⟩, ⟨t', rfl⟩⟩ := vals2 r
  refine min_two_ints (I.ok.hd hc) fun h' tk k => ⟨_, H, I.kept k, ?_, q⟩
  by_cases hj : j < i
  · rw [if_pos hj, if_pos hj]; exact ⟨_, rfl⟩
  · rw [if_neg hj, if_neg hj]; exact ⟨_, rfl⟩
theorem call_int1 : CallR X (.type "int") (fun xs H Q => (∃ i, xs = [.int i] ∧ Q (.int i) H) ∨ ∃ k, xs = [.bl k] ∧ Q (.int (if k then 1 else 0)) H) := by
  intro pins s σ H xs us Q I r h
  rcases h with ⟨i, rfl, q⟩ | ⟨k, rfl, q⟩
  · obtain ⟨u, rfl, t, rfl⟩ := vals1 r
    exact call_int_int ⟨.int i, H, I, ⟨_, rfl⟩, q⟩
  · obtain ⟨u, rfl, r1⟩ := vals1 r
    cases r1
    exact call_int_bool ⟨.int (if k then 1 else 0), H, I.tok _, ⟨_, rfl⟩, q⟩
theorem call_bool1 : CallR X (.type "bool") (fun xs H Q => (∃ i, xs = [.int i] ∧ Q (.bl (i != 0)) H) ∨ ∃ k, xs = [.bl k] ∧ Q (.bl k) H) := by
  intro pins s σ H xs us Q I r h
  rcases h with ⟨i, rfl, q⟩ | ⟨k, rfl, q⟩
  · obtain ⟨u, rfl, t, rfl⟩ := vals1 r
    exact call_bool_int ⟨.bl (i != 0), H, I, rfl, q⟩
  · obtain ⟨u, rfl, r1⟩ := vals1 r
    cases r1
    exact call_bool_bool ⟨.bl k, H, I, rfl, q⟩
theorem call_str_int : CallR X (.type "str") (fun xs H Q => ∃ i, xs = [.int i] ∧ i.natAbs.log2 < 1920 ∧ Q (.str (toString i)) H) := by
  intro pins s σ H xs us Q I r h
  obtain ⟨i, rfl, hz, q⟩ := h
  obtain ⟨u, rfl, t, rfl⟩ := vals1 r
  exact PySem.P.str_of_int hz ⟨.str _, H, I.tok _, ⟨_, rfl⟩, q⟩
theorem call_ord : CallR X (.builtin "ord") (fun xs H Q => ∃ x, xs = [.str x] ∧ x.length = 1 ∧ Q (.int (x.cps.getD 0 0 : Nat)) H) := by
  intro pins s σ H xs us Q I r h
  obtain ⟨x, rfl, hz, q⟩ := h
  obtain ⟨u, rfl, t, rfl⟩ := vals1 r
  exact ord_of_one hz ⟨.int _, H, I.tok _, ⟨_, rfl⟩, q⟩
theorem call_chr : CallR X (.builtin "chr") (fun xs H Q => ∃ i, xs = [.int i] ∧ 0 ≤ i ∧ i ≤ 1114111 ∧ Q (.str ⟨#[i.toNat]⟩) H) := by
  intro pins s σ H xs us Q I r h
  obtain ⟨i, rfl, h0, h1, q⟩ := h
  obtain ⟨u, rfl, t, rfl⟩ := vals1 r
  exact chr_of_range h0 h1 ⟨.str _, H, I.tok _, ⟨_, rfl⟩, q⟩
/-- len of a str, a bytes, a list, a tuple -/
def LenV (K : PySem.W.Frag) (x : V) (H : Hp) (n : Nat) : Prop :=
  match x with
  | .str y => y.length ≤ sizeLine ∧ n = y.length
  | .byt y => y.size ≤ sizeLine ∧ n = y.size
  | .ref p => (∃ xs, SqL K H p xs ∧ n = xs.length) ∨ ∃ xs, SqT K H p xs ∧ n = xs.length
  | _ => False
theorem call_len : CallR X (.builtin "len") (fun xs H Q => ∃ x n, xs = [x] ∧ LenV X.K x H n ∧ Q (.int n) H) := by
  intro pins s σ H xs us Q I r h
  obtain ⟨x, n, rfl, e, q⟩ := h
  obtain ⟨u, rfl, rx⟩ := vals1 r
  have hl := line63
  have hs : sizeLine = 16777216 := sizeLine_eq
  cases x with
  | str y =>
    obtain ⟨t, rfl⟩ := rx
    obtain ⟨hy, e'⟩ : y.length ≤ sizeLine ∧ n = y.length := e
    subst e'
    exact len_str (by omega) ⟨.int _, H, I.tok _, ⟨_, rfl⟩, q⟩
  | byt y =>
    obtain ⟨t, rfl⟩ := rx
    obtain ⟨hy, e'⟩ : y.size ≤ sizeLine ∧ n = y.size := e
    subst e'
    exact PySem.W.len_bytes (by omega) ⟨.int _, H, I.tok _, ⟨_, rfl⟩, q⟩
  | ref p =>
    cases rx
    have e' : (∃ xs, SqL X.K H p xs ∧ n = xs.length) ∨ ∃ xs, SqT X.K H p xs ∧ n = xs.length := e
    rcases e' with ⟨xs, hx, e'⟩ | ⟨xs, hx, e'⟩
    · subst e'
      obtain ⟨its, r', pl, hz⟩ := I.list hx
      have hlen := r'.length
      exact Calls.call_len_list pl.isList (by simp only [List.size_toArray]; omega) ⟨.int xs.length, H, I.tok _, ⟨_, by simp only [List.size_toArray]; rw [hlen]⟩, q⟩
    · subst e'
      obtain ⟨its, r', pl, hz⟩ := I.tuple hx
      have hlen := r'.length
      exact len_tuple pl (by simp only [List.size_toArray]; omega) ⟨.int xs.length, H, I.tok _, ⟨_, by simp only [List.size_toArray]; rw [hlen]⟩, q⟩
  | _ => exact (show False from e).elim
/-- divmod: a new tuple -/
theorem call_divmod : CallR X (.builtin "divmod") (fun xs H Q => ∃ i j, xs = [.int i, .int j] ∧ CDiv i j ∧ ∀ p, H p = none → Q (.ref p) (upd H p (.tup [.int (i / j), .int (i % j)]))) := by
  intro pins s σ H xs us Q I r h
  obtain ⟨i, j, rfl, ⟨h1, h2⟩, q⟩ := h
  obtain ⟨u, w', rfl, ⟨t, rfl⟩, ⟨t', rfl⟩⟩ := vals2 r
  refine divmod_int (by omega) ?_ (.inl (PyProof.noPylong_small (by omega)))
  rw [Int.fdiv_eq_ediv_of_nonneg i (by omega), Int.fmod_eq_emod_of_nonneg i (by omega)]
  have hn : H s.heap.objs.size = none := I.hok.fresh (Nat.le_refl _)
  refine ⟨.ref s.heap.objs.size, _, ?_, rfl, q _ hn⟩
  refine I.laid (fun b o e => Heap.get?_push_of_some _ e) (Nat.le_refl _) ⟨by simp only [List.length_cons, List.length_nil]; rw [sizeLine_eq]; decide, [.int (i / j) s.toks, .int (i % j) (s.toks + 1)], .cons ⟨_, rfl⟩ (.cons ⟨_, rfl⟩ .nil), ?_⟩
  exact ⟨_, Heap.get?_push_size s.heap rfl, rfl, 0, rfl⟩
end
end L2

namespace L2
open PySem PySem.Spec PyProof.Rows

/-! ### an instance, its attributes a map -/
structure ObjM (h : Heap) (x dx C : Addr) (mA : Str → Option Value) : Prop where
  obj : h.get? x = some (PySem.W.instObj C dx)
  ns : h.Ns1 dx mA
  ne : dx ≠ x

theorem lookIn_ns {h : Heap} {dx : Addr} {mA : Str → Option Value} (n : h.Ns1 dx mA) : ∃ od, h.get? dx = some od ∧ ∀ name, PySem.W.lookIn name od = some (mA name) := by
  obtain ⟨o, es, ep, ho, hd, hk, _, hm⟩ := n
  refine ⟨o, ho, fun name => ?_⟩
  have e := hm name
  unfold nsFind findBy at e
  rw [← Array.find?_toList] at e
  unfold PySem.W.lookIn
  rw [hd]
  dsimp only
  split
  · rename_i y q
    rw [q] at e
    exact congrArg some e
  · rename_i q
    rw [q] at e
    have a : es.toList.any (·.refKey) = false := by
      rw [List.any_eq_false]
      intro y hy
      obtain ⟨z, t, hkey⟩ := hk y (Array.mem_toList_iff.mp hy)
      simp [DictEntry.refKey, hkey]
    have a' : ¬ es.toList.any (·.refKey) = true := by rw [a]; exact Bool.false_ne_true
    rw [if_neg a']
    exact congrArg some e

theorem ObjM.look {h : Heap} {x dx C : Addr} {mA : Str → Option Value} (I : ObjM h x dx C mA) : ∃ od, PySem.W.InstAt h x (PySem.W.instObj C dx) C (some od) ∧ ∀ name, PySem.W.lookIn name od = some (mA name) :=
  let ⟨od, ho, hl⟩ := lookIn_ns I.ns
  ⟨od, ⟨I.obj, rfl, rfl, ho⟩, hl⟩

section
variable {prog : Program} {w : World} {A : Around} {E : Value → Shared → Prop} {s : Shared} {K : PySem.W.Frag} {x dx C f : Addr} {mA : Str → Option Value} {name : Str} {v : Value}

theorem get_map {expr : Bool} {Q : Value → Shared → Prop} (X : K.In s.heap) (I : ObjM s.heap x dx C mA) (hg : PySem.W.plainGet K C name = true) (hh : PySem.W.hasDictIn K C = true)
    (ha : PySem.W.findIn K (.ref C) name = some none) (hv : mA name = some v) (hv' : PySem.W.handedIn v = true) (h : Q v { s with toks := s.toks + 1 }) :
    wpAny (model prog w) A (getAttr (.ref x) name expr) Q E s := by
  obtain ⟨od, J, hl⟩ := I.look
  exact PySem.W.get_value X J (PySem.W.plainGet_of hg).1 (PySem.W.findObj_own hh ha rfl (by rw [hl, hv])) hv' h

theorem get_const {expr : Bool} {a : Value} {Q : Value → Shared → Prop} (X : K.In s.heap) (I : ObjM s.heap x dx C mA) (hg : PySem.W.plainGet K C name = true) (hh : PySem.W.hasDictIn K C = true)
    (ha : PySem.W.findIn K (.ref C) name = some (some a)) (hn : PySem.W.specialIn K a "__get__" = some none) (hc : PySem.W.copiedNames.contains name = false) (hv : mA name = none) (hv' : PySem.W.handedIn a = true)
    (h : Q a { s with toks := s.toks + 1 }) : wpAny (model prog w) A (getAttr (.ref x) name expr) Q E s := by
  obtain ⟨od, J, hl⟩ := I.look
  exact PySem.W.get_value X J (PySem.W.plainGet_of hg).1 (PySem.W.findObj_cls hh ha hn hv' hc (by rw [hl, hv])) hv' h

theorem get_meth {pl : Sem Bool} {Q : Value × List Value → Shared → Prop} (X : K.In s.heap) (I : ObjM s.heap x dx C mA) (hg : PySem.W.plainGet K C name = true)
    (hf : PySem.W.findIn K (.ref C) name = some (some (.ref f))) (ht : PySem.W.isFn K (.ref f) = true) (hv : mA name = none) (h : Q (.ref f, [.ref x]) s) :
    wpAny (model prog w) A (getMethod (.ref x) name pl) Q E s := by
  obtain ⟨od, J, hl⟩ := I.look
  exact PySem.W.method_fn X J (PySem.W.plainGet_of hg).1 (PySem.W.plainGet_of hg).2 hf (beq_iff_eq.mp ht) (by show (PySem.W.lookIn name od).map (·.isSome) = some false; rw [hl, hv]; rfl) h

theorem set_map {ns : List Str} {Q : Unit → Shared → Prop} (X : K.In s.heap) (I : ObjM s.heap x dx C mA)
    (hs : PySem.W.findIn K (.ref C) "__setattr__" = some (some (.builtin "object.__setattr__"))) (hp : PySem.W.plainOver K C = true) (ht : PySem.W.takerIn K C name = some none) (hh : PySem.W.hasDictIn K C = true)
    (hw : PySem.Within mA ns) (hsz : ns.length ≤ sizeLine)
    (h : ∀ h', ObjM h' x dx C (fun y => if y = name then some v else mA y) → Heap.SameBut dx s.heap h' → Q () { s with heap := h', toks := s.toks + 2 }) :
    wpAny (model prog w) A (setAttr (.ref x) name v) Q E s := by
  obtain ⟨od, J, hl⟩ := I.look
  refine PySem.W.set_plain X J hs (PySem.W.osa_open (s := { s with toks := s.toks + 1 }) (r := none) X J hp ht fun b => ?_)
  obtain ⟨cd, hc, hd'⟩ := PySem.W.any_some hh
  have hx : s.heap.get? x = some ⟨.ref C, some dx, .plain, #[]⟩ := I.obj
  refine wpAny_bind (wpAny_pure (wpAny_bind (wpAny_bind (wpAny_loadPart hx (wpAny_bind (PySem.W.Looks.here (s := { s with toks := s.toks + 1 }) (PySem.W.looks_clsIn X hc) ?_))))))
  rw [hd']
  refine wpAny_pure (a := some dx) (wpAny_bind (wpAny_pure (wpAny_bind ?_)))
  refine wpAny_nsSet1 (s := { s with toks := s.toks + 1 }) I.ns fun h' hn2 hs2 => ?_
  obtain ⟨oD, esD, epD, hoD, hdD, hcD⟩ := hn2.count (PySem.Within.cons name v hw)
  refine wpAny_bind (wpAny_lookBehind hoD (by rw [hdD]; exact pastItsLine_dict (Nat.le_trans hcD (by rw [List.length_cons]; omega))) ?_)
  exact wpAny_pure (h _ ⟨(hs2.2 _ (Ne.symm I.ne)).trans I.obj, hn2, I.ne⟩ hs2)

/-- C(..): the dict at the heap's end, the instance behind it; then its __init__ -/
theorem make_map {R : Result → Shared → Prop} {vs : List Value} {kw : List (Str × Value)} (X : K.In s.heap) (hm : PySem.W.makesIn K C = true)
    (hi : PySem.W.findIn K (.ref C) "__init__" = some (some (.ref f))) (hf : PySem.W.typeIn K (.ref f) = some (.type "function"))
    (h : codeAny (model prog w) (A.under (.builtin "type.__call__" ⟨.ref C :: vs, kw⟩)) (.call (.ref f) ⟨.ref (s.heap.objs.size + 1) :: vs, kw⟩) (PySem.W.InitBack (s.heap.objs.size + 1) R)
      { s with heap := (s.heap.push PySem.W.emptyDict).push (PySem.W.instObj C s.heap.objs.size) }) :
    codeAny (model prog w) A (.call (.ref C) ⟨vs, kw⟩) R s := by
  obtain ⟨hh, g, d, t, os⟩ := s
  exact PySem.W.make_core (PySem.W.makes_of X hm) (PySem.W.looks_findIn X hi) (fun self => PySem.W.bind_fn X self hf) (.inl rfl) h
/-- C() where there is no __init__ but object's -/
theorem make_map0 {R : Result → Shared → Prop} (X : K.In s.heap) (hm : PySem.W.makesIn K C = true)
    (hi : PySem.W.findIn K (.ref C) "__init__" = some (some (.builtin "object.__init__")))
    (hb : ∀ self, PySem.W.Looks (model prog w) s.heap (bindSpecial (.builtin "object.__init__") self) (.builtin "object.__init__", [self]))
    (h : codeAny (model prog w) (A.under (.builtin "type.__call__" ⟨[.ref C], []⟩)) (.call (.builtin "object.__init__") ⟨[.ref (s.heap.objs.size + 1)], []⟩) (PySem.W.InitBack (s.heap.objs.size + 1) R)
      { s with heap := (s.heap.push PySem.W.emptyDict).push (PySem.W.instObj C s.heap.objs.size) }) :
    codeAny (model prog w) A (.call (.ref C) ⟨[], []⟩) R s := by
  obtain ⟨hh, g, d, t, os⟩ := s
  exact PySem.W.make_core (PySem.W.makes_of X hm) (PySem.W.looks_findIn X hi) hb (.inr ⟨rfl, rfl⟩) h
end

/-! ### the attributes as a list of pairs -/
def putF (f : Str) (v : V) : List (Str × V) → List (Str × V)
  | [] => [(f, v)]
  | (g, x) :: r => if g = f then (g, v) :: r else (g, x) :: putF f v r
theorem lookup_putF (f g : Str) (v : V) : ∀ fs : List (Str × V), (putF f v fs).lookup g = if g = f then some v else fs.lookup g
  | [] => by
    show List.lookup g [(f, v)] = _
    by_cases h : g = f
    · have hb : (g == f) = true := beq_iff_eq.mpr h
      simp only [List.lookup, hb, if_pos h]
    · have hb : (g == f) = false := beq_eq_false_iff_ne.mpr h
      simp only [List.lookup, hb, if_neg h]
  | (k, x) :: r => by
    have ih := lookup_putF f g v r
    rw [show putF f v ((k, x) :: r) = (if k = f then (k, v) :: r else (k, x) :: putF f v r) from rfl]
    by_cases hk : k = f
    · rw [if_pos hk]
      by_cases h : g = k
      · have hb : (g == k) = true := beq_iff_eq.mpr h
        simp only [List.lookup, hb, if_pos (h.trans hk)]
      · have hb : (g == k) = false := beq_eq_false_iff_ne.mpr h
        simp only [List.lookup, hb, if_neg (fun e : g = f => h (e.trans hk.symm))]
    · rw [if_neg hk]
      by_cases h : g = k
      · have hb : (g == k) = true := beq_iff_eq.mpr h
        simp only [List.lookup, hb, if_neg (fun e : g = f => hk (h.symm.trans e))]
      · have hb : (g == k) = false := beq_eq_false_iff_ne.mpr h
        simp only [List.lookup, hb]
        exact ih
theorem keys_putF (f : Str) (v : V) : ∀ fs : List (Str × V), f ∈ (putF f v fs).map (·.1) ∧ ∀ g, g ∈ fs.map (·.1) → g ∈ (putF f v fs).map (·.1)
  | [] => ⟨by simp [putF], fun g h => by simp at h⟩
  | (k, x) :: r => by
    obtain ⟨i1, i2⟩ := keys_putF f v r
    rw [show putF f v ((k, x) :: r) = (if k = f then (k, v) :: r else (k, x) :: putF f v r) from rfl]
    by_cases hk : k = f
    · rw [if_pos hk]
      subst hk
      exact ⟨by simp, fun g h => by simpa using h⟩
    · rw [if_neg hk]
      refine ⟨?_, fun g h => ?_⟩
      · rw [List.map_cons]
        exact List.mem_cons_of_mem _ i1
      · rw [List.map_cons] at h ⊢
        rcases List.mem_cons.mp h with e | e
        · exact List.mem_cons.mpr (.inl e)
        · exact List.mem_cons_of_mem _ (i2 g e)
theorem length_putF (f : Str) (v : V) : ∀ fs : List (Str × V), (putF f v fs).length ≤ fs.length + 1
  | [] => by simp [putF]
  | (k, x) :: r => by
    have ih := length_putF f v r
    rw [show putF f v ((k, x) :: r) = (if k = f then (k, v) :: r else (k, x) :: putF f v r) from rfl]
    by_cases hk : k = f
    · rw [if_pos hk, List.length_cons, List.length_cons]; omega
    · rw [if_neg hk, List.length_cons, List.length_cons]; omega

theorem RelO.some_of {v : V} {o : Option Value} (r : RelO (some v) o) : ∃ u, o = some u ∧ RelV v u := by
  cases o with
  | none => exact (show False from r).elim
  | some u => exact ⟨u, rfl, r⟩
theorem RelO.none_of {o : Option Value} (r : RelO none o) : o = none := by
  cases o with
  | none => rfl
  | some u => exact (show False from r).elim
theorem handed_of {v : V} {u : Value} (r : RelV v u) : PySem.W.handedIn u = true := by
  cases v with
  | non => cases (show u = Value.none from r); rfl
  | bl b => cases (show u = Value.bool b from r); rfl
  | int i => obtain ⟨t, e⟩ := (show ∃ t, u = Value.int i t from r); cases e; rfl
  | str x => obtain ⟨t, e⟩ := (show ∃ t, u = Value.str x t from r); cases e; rfl
  | byt b => obtain ⟨t, e⟩ := (show ∃ t, u = Value.bytes b t from r); cases e; rfl
  | flt b => obtain ⟨t, e⟩ := (show ∃ t, u = Value.float b t from r); cases e; rfl
  | ref a => cases (show u = Value.ref a from r); rfl
  | ty n => cases (show u = Value.type n from r); rfl

section
variable {P : Program} {w : World} {H H' : Hp} {h h' : Heap} {a C dx : Addr} {fs fs' : List (Str × V)}
theorem ins_get (hok : HOk P w H h) (e : H a = some (.ins C dx fs)) : ∃ mA, ObjM h a dx C mA ∧ (∀ f, RelO (fs.lookup f) (mA f)) ∧ PySem.Within mA (fs.map (·.1)) ∧ fs.length ≤ 1000 ∧ H dx = some (.own a) := by
  obtain ⟨d, z, ne, ob, mA, n, r, q⟩ := (show ObjOk P w H h a (.ins C dx fs) from hok a _ e)
  exact ⟨mA, ⟨ob, n, ne⟩, r, q, z, d⟩
end

/-! ### what of the text a class must have -/
structure Cls (K : PySem.W.Frag) (C : Addr) : Prop where
  pg : PySem.W.plainGet K C Str.empty = true
  hd : PySem.W.hasDictIn K C = true
  po : PySem.W.plainOver K C = true
  sa : PySem.W.findIn K (.ref C) "__setattr__" = some (some (.builtin "object.__setattr__"))
theorem Cls.get {K : PySem.W.Frag} {C : Addr} (c : Cls K C) (f : Str) : PySem.W.plainGet K C f = true := c.pg
/-- no class of it has the name -/
def NoAttr (K : PySem.W.Frag) (C : Addr) (f : Str) : Prop := PySem.W.findIn K (.ref C) f = some none
theorem NoAttr.taker {K : PySem.W.Frag} {C : Addr} {f : Str} (n : NoAttr K C f) : PySem.W.takerIn K C f = some none := by
  unfold PySem.W.takerIn
  rw [show PySem.W.findIn K (.ref C) f = some none from n]
  rfl
/-- a constant of the class -/
structure Con (K : PySem.W.Frag) (C : Addr) (f : Str) (v : V) (u : Value) : Prop where
  at_ : PySem.W.findIn K (.ref C) f = some (some u)
  rel : RelV v u
  get : PySem.W.specialIn K u "__get__" = some none
  cp : PySem.W.copiedNames.contains f = false
/-- a method: a plain def of the class or of one above it -/
structure Meth (K : PySem.W.Frag) (C : Addr) (m : Str) (f : Addr) : Prop where
  at_ : PySem.W.findIn K (.ref C) m = some (some (.ref f))
  fn : PySem.W.isFn K (.ref f) = true
  kp : PySem.W.keepIn K (.ref f) = true

section
variable {X : Cx} {pins : List (Addr × Obj)} {σ : St} {H : Hp} {s : Shared} {a C dx : Addr} {fs : List (Str × V)} {f : Str} {v : V} {A : Around} {E : Value → Shared → Prop}

theorem getattr_ok {b : Bool} {Q : Value → Shared → Prop} (I : Inv X pins σ H s) (e : H a = some (.ins C dx fs)) (c : Cls X.K C) (n : NoAttr X.K C f) (l : fs.lookup f = some v)
    (h : ∀ u s', Inv X pins σ H s' → RelV v u → Q u s') : wpAny (model X.prog X.w) A (getAttr (.ref a) f b) Q E s := by
  obtain ⟨mA, O, r, _, _, _⟩ := ins_get I.hok e
  obtain ⟨u, hu, ru⟩ := RelO.some_of (v := v) (o := mA f) (by rw [← l]; exact r f)
  exact get_map I.kIn O (c.get f) c.hd n hu (handed_of ru) (h u _ (I.tok _) ru)

theorem getcon_ok {b : Bool} {u : Value} {Q : Value → Shared → Prop} (I : Inv X pins σ H s) (e : H a = some (.ins C dx fs)) (c : Cls X.K C) (k : Con X.K C f v u) (l : fs.lookup f = none)
    (h : ∀ s', Inv X pins σ H s' → Q u s') : wpAny (model X.prog X.w) A (getAttr (.ref a) f b) Q E s := by
  obtain ⟨mA, O, r, _, _, _⟩ := ins_get I.hok e
  have hn : mA f = none := RelO.none_of (by rw [← l]; exact r f)
  exact get_const I.kIn O (c.get f) c.hd k.at_ k.get k.cp hn (handed_of k.rel) (h _ (I.tok _))

theorem getmeth_ok {m : Str} {g : Addr} {pl : Sem Bool} {Q : Value × List Value → Shared → Prop} (I : Inv X pins σ H s) (e : H a = some (.ins C dx fs)) (c : Cls X.K C) (k : Meth X.K C m g) (l : fs.lookup m = none)
    (h : Q (.ref g, [.ref a]) s) : wpAny (model X.prog X.w) A (getMethod (.ref a) m pl) Q E s := by
  obtain ⟨mA, O, r, _, _, _⟩ := ins_get I.hok e
  have hn : mA m = none := RelO.none_of (by rw [← l]; exact r m)
  exact get_meth I.kIn O (c.get m) k.at_ k.fn hn h

theorem setattr_ok {y : V} {u : Value} {Q : Unit → Shared → Prop} (I : Inv X pins σ H s) (e : H a = some (.ins C dx fs)) (c : Cls X.K C) (n : NoAttr X.K C f) (hl : fs.length < 1000) (ry : RelV y u)
    (h : ∀ s', Inv X pins σ (upd H a (.ins C dx (putF f y fs))) s' → Q () s') : wpAny (model X.prog X.w) A (setAttr (.ref a) f u) Q E s := by
  obtain ⟨mA, O, r, wi, _, ho⟩ := ins_get I.hok e
  have hz : (fs.map (·.1)).length ≤ sizeLine := by rw [List.length_map, sizeLine_eq]; omega
  refine set_map I.kIn O c.sa c.po n.taker c.hd wi hz fun h' O' sb => h _ ?_
  have hd : ∃ o, h'.get? dx = some o := let ⟨o, _, _, e', _⟩ := O'.ns; ⟨o, e'⟩
  refine I.write (x := a) (e := dx) (by rw [e]; exact True.intro) (.inr ho) (fun b q hb z => (sb.2 b hb).trans z) hd ?_
  refine ⟨by rw [upd_ne O.ne]; exact ho, ?_, O.ne, O'.obj, _, O'.ns, fun g => ?_, fun g hg => ?_⟩
  · have := length_putF f y fs; omega
  · show RelO ((putF f y fs).lookup g) (if g = f then some u else mA g)
    rw [lookup_putF]
    by_cases q : g = f
    · rw [if_pos q, if_pos q]; exact ry
    · rw [if_neg q, if_neg q]; exact r g
  · by_cases q : g = f
    · rw [q]; exact (keys_putF f y fs).1
    · refine (keys_putF f y fs).2 g (wi g fun z => hg ?_)
      show (if g = f then some u else mA g) = none
      rw [if_neg q]; exact z

/-- a new instance, tracked, without attributes -/
theorem Inv.made (I : Inv X pins σ H s) : Inv X pins σ (upd (upd H s.heap.objs.size (.own (s.heap.objs.size + 1))) (s.heap.objs.size + 1) (.ins C s.heap.objs.size []))
    { s with heap := (s.heap.push PySem.W.emptyDict).push (PySem.W.instObj C s.heap.objs.size) } := by
  have e1 : (s.heap.push PySem.W.emptyDict).get? s.heap.objs.size = some PySem.W.emptyDict := Heap.get?_push_size s.heap rfl
  have e2 : ((s.heap.push PySem.W.emptyDict).push (PySem.W.instObj C s.heap.objs.size)).get? (s.heap.objs.size + 1) = some (PySem.W.instObj C s.heap.objs.size) := by
    have := Heap.get?_push_size (s.heap.push PySem.W.emptyDict) (o := PySem.W.instObj C s.heap.objs.size) rfl
    rwa [Heap.size_push] at this
  have e3 : (s.heap.push PySem.W.emptyDict).Ns s.heap.objs.size (fun _ => none) := ⟨PySem.W.emptyDict, #[], _, e1, rfl, (fun e he => absurd he (by simp)), fun _ => rfl⟩
  have I1 := I.laid (a := s.heap.objs.size) (o := .own (s.heap.objs.size + 1)) (h' := s.heap.push PySem.W.emptyDict) (t' := s.toks) (fun b u q => Heap.get?_push_of_some _ q) (Nat.le_refl _) ⟨_, e1⟩
  refine I1.laid (a := s.heap.objs.size + 1) (o := .ins C s.heap.objs.size []) (t' := s.toks) (fun b u q => Heap.get?_push_of_some _ q) (Nat.le_of_eq (Heap.size_push _ _)) ?_
  have ne : s.heap.objs.size ≠ s.heap.objs.size + 1 := Nat.ne_of_lt (Nat.lt_succ_self _)
  refine ⟨by rw [upd_ne ne, upd_same], Nat.zero_le _, ne, e2, fun _ => none, (Heap.Ns1.of_empty e3).at fun o q => Heap.get?_push_of_some _ q, fun _ => True.intro, fun y hy => absurd rfl hy⟩

/-- e.f where nothing but the object is asked: through attributeBase (super) and the last hold -/
theorem attr_of {prog : Program} {w : World} {env : Env} {e : Expr} {f : Str} {pos : Pos} {s : Shared} {Q : Value → Shared → Prop} (hb : attributeBase e f env (eval e env) = eval e env)
    (h : wpAny (model prog w) A (eval e env) (fun o s₁ => wpAny (model prog w) A (getAttr o f true) Q E s₁) E s) : wpAny (model prog w) A (eval (.Attribute e f pos) env) Q E s :=
  Attribute_any_ h (by rw [arm_eval_Attribute, hb])
end

/-! ### readings and rules -/
/-- e.f, an attribute of the instance -/
def tFld (K : PySem.W.Frag) (ta : TE) (f : Str) : TE := fun σ H Q => ta σ H fun x H1 => ∃ a C dx fs v, x = .ref a ∧ H1 a = some (.ins C dx fs) ∧ Cls K C ∧ NoAttr K C f ∧ fs.lookup f = some v ∧ Q v H1
/-- e.f, a constant of the class -/
def tCon (K : PySem.W.Frag) (ta : TE) (f : Str) : TE := fun σ H Q => ta σ H fun x H1 => ∃ a C dx fs v u, x = .ref a ∧ H1 a = some (.ins C dx fs) ∧ Cls K C ∧ Con K C f v u ∧ fs.lookup f = none ∧ Q v H1
/-- e.f = value -/
def sFld (K : PySem.W.Frag) (ta tv : TE) (f : Str) : TS := fun D σ H => tv σ H fun y H1 => ta σ H1 fun x H2 => ∃ a C dx fs, x = .ref a ∧ H2 a = some (.ins C dx fs) ∧ Cls K C ∧ NoAttr K C f ∧ fs.length < 1000 ∧
  D.nx σ (upd H2 a (.ins C dx (putF f y fs)))
/-- an augmented operator on two values -/
def InOp (X : Cx) (op : Operator) (rd : V → V → Hp → VK → Prop) : Prop :=
  ∀ (pins : List (Addr × Obj)) (s : Shared) (σ : St) (H : Hp) (x y : V) (u v : Value) (Q : VK), Inv X pins σ H s → RelV x u → RelV y v → rd x y H Q → wpAny (model X.prog X.w) X.A (inplaceOp op u v) (EP X pins σ Q) X.xe s
/-- e.f op= value -/
def sFldAug (K : PySem.W.Frag) (ta tv : TE) (rd : V → V → Hp → VK → Prop) (f : Str) : TS := fun D σ H => ta σ H fun x H1 => ∃ a C dx fs v, x = .ref a ∧ H1 a = some (.ins C dx fs) ∧ Cls K C ∧ NoAttr K C f ∧ fs.lookup f = some v ∧
  tv σ H1 fun y H2 => rd v y H2 fun z H3 => ∃ dx' fs', H3 a = some (.ins C dx' fs') ∧ fs'.length < 1000 ∧ D.nx σ (upd H3 a (.ins C dx' (putF f z fs')))

section
variable {X : Cx} {o e value : Expr} {f : Str} {pos pos' tpos : Pos} {ta tv : TE}
theorem pe_fld (he : PE X e ta) (hb : attributeBase e f X.env (eval e X.env) = eval e X.env) : PE X (.Attribute e f pos) (tFld X.K ta f) := by
  intro pins s σ H Q I h
  refine attr_of hb (thn (he pins s σ H _ I h) fun u s1 ⟨x, H1, I1, rx, a, C, dx, fs, v, ex, ea, c, n, l, q⟩ => ?_)
  subst ex
  obtain rfl : u = Value.ref a := rx
  exact getattr_ok I1 ea c n l fun u' s2 I2 ru => ⟨v, H1, I2, ru, q⟩
theorem pe_con (he : PE X e ta) (hb : attributeBase e f X.env (eval e X.env) = eval e X.env) : PE X (.Attribute e f pos) (tCon X.K ta f) := by
  intro pins s σ H Q I h
  refine attr_of hb (thn (he pins s σ H _ I h) fun u s1 ⟨x, H1, I1, rx, a, C, dx, fs, v, u0, ex, ea, c, k, l, q⟩ => ?_)
  subst ex
  obtain rfl : u = Value.ref a := rx
  exact getcon_ok I1 ea c k l fun s2 I2 => ⟨v, H1, I2, k.rel, q⟩
theorem ps_fld (ha : PE X o ta) (hv : PE X value tv) (hs : swapsWith value (some (.Attribute o f pos')) pos.line X.env = pure false) : PS X (.Assign [.Attribute o f pos'] value pos) (sFld X.K ta tv f) := by
  intro pins s σ H D I h
  refine plainObj_wpAny_Assign_Attribute (thn (hv pins s σ H _ I h) fun u s1 ⟨y, H1, I1, ry, q⟩ => thn (ha pins s1 σ H1 _ I1 q) fun ov s2 ⟨x, H2, I2, rx, a, C, dx, fs, ex, ea, c, n, l, q2⟩ => ?_) hs
  subst ex
  obtain rfl : ov = Value.ref a := rx
  exact setattr_ok I2 ea c n l ry fun s3 I3 => ⟨σ, _, I3, q2⟩
theorem ps_fldaug {op : Operator} {rd : V → V → Hp → VK → Prop} (ha : PE X o ta) (hv : PE X value tv) (hop : InOp X op rd) : PS X (.AugAssign (.Attribute o f tpos) op value pos) (sFldAug X.K ta tv rd f) := by
  intro pins s σ H D I h
  refine wpAny_AugAssign_AttributeAny (thn (ha pins s σ H _ I h) fun ov s1 ⟨x, H1, I1, rx, a, C, dx, fs, v, ex, ea, c, n, l, q⟩ => ?_)
  subst ex
  obtain rfl : ov = Value.ref a := rx
  refine getattr_ok I1 ea c n l fun u s2 I2 ru => thn (hv pins s2 σ H1 _ I2 q) fun w3 s3 ⟨y, H2, I3, ry, q3⟩ => thn (hop pins s3 σ H2 v y u w3 _ I3 ru ry q3) fun w4 s4 ⟨z, H3, I4, rz, dx', fs', ea', l', q4⟩ => ?_
  exact setattr_ok I4 ea' c n l' rz fun s5 I5 => ⟨σ, _, I5, q4⟩
def rAdd : V → V → Hp → VK → Prop := fun x y H Q => ∃ i j, x = .int i ∧ y = .int j ∧ Q (.int (i + j)) H
def rSub : V → V → Hp → VK → Prop := fun x y H Q => ∃ i j, x = .int i ∧ y = .int j ∧ Q (.int (i - j)) H
theorem in_add : InOp X .Add rAdd := by
  rintro pins s σ H x y u v Q I rx ry ⟨i, j, rfl, rfl, q⟩
  obtain ⟨t, rfl⟩ := (show ∃ t, u = Value.int i t from rx)
  obtain ⟨t', rfl⟩ := (show ∃ t', v = Value.int j t' from ry)
  exact PyProof.Rows.iadd_int ⟨.int (i + j), H, I.tok _, ⟨_, rfl⟩, q⟩
theorem in_sub : InOp X .Sub rSub := by
  rintro pins s σ H x y u v Q I rx ry ⟨i, j, rfl, rfl, q⟩
  obtain ⟨t, rfl⟩ := (show ∃ t, u = Value.int i t from rx)
  obtain ⟨t', rfl⟩ := (show ∃ t', v = Value.int j t' from ry)
  exact PyProof.Rows.isub_int ⟨.int (i - j), H, I.tok _, ⟨_, rfl⟩, q⟩

/-- what is between an instance and its method: the tree of a method call -/
theorem methcall_of {pl : Sem Bool} {m : Str} {apos : Pos} {args : List Expr} {pins : List (Addr × Obj)} {s : Shared} {σ : St} {H : Hp} {Q : Value → Shared → Prop} {te : TE} (he : PE X e te) (I : Inv X pins σ H s)
    (h : te σ H fun x H1 => ∃ a C dx fs g, x = .ref a ∧ H1 a = some (.ins C dx fs) ∧ Cls X.K C ∧ Meth X.K C m g ∧ fs.lookup m = none ∧
      ∀ s1, Inv X pins σ H1 s1 → wpAny (model X.prog X.w) X.A (callWith pos (.ref g) [.ref a] (backTo pos (starEach args X.env)) (backToKw pos (keywordEach [] X.env))) Q X.xe s1)
    (ht : eval (.Call (.Attribute e m apos) args [] pos) X.env = (do
      let ov ← eval e X.env
      standAt apos.atName
      let (f, first) ← holding [ov] (getMethod ov m pl)
      callWith pos f first (backTo pos (starEach args X.env)) (backToKw pos (keywordEach [] X.env)))) :
    wpAny (model X.prog X.w) X.A (eval (.Call (.Attribute e m apos) args [] pos) X.env) Q X.xe s := by
  refine PySem.W.methodCall_KW (pl := pl) (thn (he pins s σ H _ I h) fun u s1 ⟨x, H1, I1, rx, a, C, dx, fs, g, ex, ea, c, k, l, q⟩ => ?_) ht
  subst ex
  obtain rfl : u = Value.ref a := rx
  exact getmeth_ok I1 ea c k l (q s1 I1)
end

/-! ### isinstance -/
section
variable {X : Cx} {pins : List (Addr × Obj)} {σ : St} {H : Hp} {s : Shared} {A : Around} {E : Value → Shared → Prop} {Q : Value → Shared → Prop} {c : Value} {b : Bool}
/-- the type of a value, as the fragment's deciders take it; for an instance its class -/
inductive TyOf (K : PySem.W.Frag) (H : Hp) : V → Value → Prop where
  | non : TyOf K H .non (.type "NoneType")
  | bl (x : Bool) : TyOf K H (.bl x) (.type "bool")
  | int (i : Int) : TyOf K H (.int i) (.type "int")
  | str (x : Str) : TyOf K H (.str x) (.type "str")
  | flt (x : UInt64) : TyOf K H (.flt x) (.type "float")
  | lst {a : Addr} {xs : List V} (e : H a = some (.lst xs)) : TyOf K H (.ref a) (.type "list")
  | frz {a : Addr} {o : Obj} {xs : List V} (e : H a = some (.frz o (.lst xs))) : TyOf K H (.ref a) (.type "list")
  | tup {a : Addr} {xs : List V} (e : H a = some (.tup xs)) : TyOf K H (.ref a) (.type "tuple")
  | dK {a : Addr} {kvs : List (Key × V)} (e : H a = some (.dK kvs)) : TyOf K H (.ref a) (.type "dict")
  | dT {a : Addr} {kvs : List (List Key × V)} (e : H a = some (.dT kvs)) : TyOf K H (.ref a) (.type "dict")
  | ins {a C dx : Addr} {fs : List (Str × V)} (e : H a = some (.ins C dx fs)) (cl : Cls K C) (ha : PySem.W.findIn K (.ref C) "__class__" = some (some (.builtin "object.__class__")))
      (hn : PySem.W.specialIn K (.builtin "object.__class__") "__get__" = some (some (.builtin "getset_descriptor.__get__"))) (htk : PySem.W.takesIn K (.builtin "object.__class__") = some true)
      (hm : PySem.W.mroIn K C (.type "object") = some true) : TyOf K H (.ref a) (.ref C)
/-- isinstance(x, c) for one class c, a built-in or an own one: kitOne's answer -/
theorem isinst_ok {x : V} {u t : Value} (I : Inv X pins σ H s) (rx : RelV x u) (ty : TyOf X.K H x t) (e : PySem.W.kitOne X.K t c = some b) (h : ∀ tk, Q (.bool b) { s with toks := tk }) :
    wpAny (model X.prog X.w) A (call (.builtin "isinstance") [u, c]) Q E s := by
  cases ty with
  | non => cases (show u = Value.none from rx); exact PySem.W.kia_one PySem.W.kitx_none I.kIn True.intro e (fun z => nomatch z) h
  | bl y => cases (show u = Value.bool y from rx); exact PySem.W.kia_one PySem.W.kitx_bool I.kIn True.intro e (fun z => nomatch z) h
  | int i => obtain ⟨t, q⟩ := (show ∃ t, u = Value.int i t from rx); cases q; exact PySem.W.kia_one PySem.W.kitx_int I.kIn True.intro e (fun z => nomatch z) h
  | str y => obtain ⟨t, q⟩ := (show ∃ t, u = Value.str y t from rx); cases q; exact PySem.W.kia_one PySem.W.kitx_str I.kIn True.intro e (fun z => nomatch z) h
  | flt y => obtain ⟨t, q⟩ := (show ∃ t, u = Value.float y t from rx); cases q; exact PySem.W.kia_one PySem.W.kitx_float I.kIn True.intro e (fun z => nomatch z) h
  | @lst a xs ea =>
    cases (show u = Value.ref a from rx)
    obtain ⟨_, _, n, _, h1⟩ := (show ObjOk X.prog X.w H s.heap a (.lst xs) from I.hok a _ ea)
    exact PySem.W.kia_one PySem.W.kitx_list I.kIn ⟨_, h1, rfl⟩ e (fun z => nomatch z) h
  | @frz a ob xs ea =>
    cases (show u = Value.ref a from rx)
    obtain ⟨_, _, _, n, _, h1⟩ := (show ObjOk X.prog X.w H s.heap a (.frz ob (.lst xs)) from I.hok a _ ea)
    exact PySem.W.kia_one PySem.W.kitx_list I.kIn ⟨_, h1, rfl⟩ e (fun z => nomatch z) h
  | @tup a xs ea =>
    cases (show u = Value.ref a from rx)
    obtain ⟨_, _, _, p⟩ := (show ObjOk X.prog X.w H s.heap a (.tup xs) from I.hok a _ ea)
    obtain ⟨o, h1, h2, _⟩ := p
    exact PySem.W.kia_one PySem.W.kitx_tuple I.kIn ⟨o, h1, h2⟩ e (fun z => nomatch z) h
  | @dK a kvs ea =>
    cases (show u = Value.ref a from rx)
    obtain ⟨_, _, vs, _, p⟩ := (show ObjOk X.prog X.w H s.heap a (.dK kvs) from I.hok a _ ea)
    obtain ⟨o, es, ep, h1, h2, _⟩ := p
    exact PySem.W.kia_one PySem.W.kitx_dict I.kIn ⟨o, h1, h2.1⟩ e (fun z => nomatch z) h
  | @dT a kvs ea =>
    cases (show u = Value.ref a from rx)
    obtain ⟨_, _, xs, _, o, es, ep, h1, h2, _⟩ := (show ObjOk X.prog X.w H s.heap a (.dT kvs) from I.hok a _ ea)
    exact PySem.W.kia_one PySem.W.kitx_dict I.kIn ⟨o, h1, h2.1⟩ e (fun z => nomatch z) h
  | @ins a C dx fs ea cl ha hn htk hm =>
    cases (show u = Value.ref a from rx)
    obtain ⟨mA, O, _⟩ := ins_get I.hok ea
    obtain ⟨od, J, _⟩ := O.look
    exact PySem.W.kia_one (PySem.W.kitx_own (cl.get _) cl.hd ha hn htk hm) I.kIn J e (fun z => nomatch z) h
end
end L2

namespace L2
open PySem PySem.Spec PyProof.Rows

/-! ### room -/
structure Room (k : Nat) (A : Around) : Prop where
  hd : A.handled = none
  dp : A.depth + 3 * k + 5 < recursionLimit
  un : A.units + 16 * k + 200 < cLine
theorem Room.mono {j k : Nat} {A : Around} (r : Room k A) (h : j ≤ k) : Room j A := ⟨r.hd, by have := r.dp; omega, by have := r.un; omega⟩
theorem Room.deeper {k : Nat} {A : Around} (r : Room (k + 1) A) (env : Env) : Room k (A.deeper env) :=
  ⟨r.hd, by have := r.dp; show A.depth + 1 + 3 * k + 5 < _; omega, by have := r.un; show A.units + 3 + 16 * k + 200 < _; omega⟩
theorem Room.in1 {k : Nat} {A : Around} (r : Room (k + 1) A) : Room k A.in1 :=
  ⟨r.hd, by have := r.dp; show A.depth + 3 * k + 5 < _; omega, by have := r.un; show A.units + 1 + 16 * k + 200 < _; omega⟩
theorem make_depth {A : Around} {C : Addr} {us : List Value} {kw : List (Str × Value)} : (A.under (.builtin "type.__call__" ⟨.ref C :: us, kw⟩)).depth = A.depth + 1 := by
  first | rfl | simp [Around.under, Code.weight, Code.isCreation, Code.isGuard, Code.isCaller, Code.frames, Code.isFrame, guardIds]
theorem make_units {A : Around} {C : Addr} {us : List Value} {kw : List (Str × Value)} : (A.under (.builtin "type.__call__" ⟨.ref C :: us, kw⟩)).units = A.units + 1 := by
  first | rfl | simp [Around.under, Code.cUnits, Code.frames, Code.isFrame]
theorem Room.make {k : Nat} {A : Around} (r : Room (k + 1) A) (C : Addr) (us : List Value) (kw : List (Str × Value)) : Room k (A.under (.builtin "type.__call__" ⟨.ref C :: us, kw⟩)) :=
  ⟨r.hd, by have := r.dp; rw [make_depth]; omega, by have := r.un; rw [make_units]; omega⟩
theorem Room.depth {k : Nat} {A : Around} (r : Room k A) : A.depth < recursionLimit := by have := r.dp; omega
theorem Room.units {k : Nat} {A : Around} (r : Room k A) : A.units + 64 < cLine := by have := r.un; omega
theorem Room.units0 {k : Nat} {A : Around} (r : Room k A) : A.units < cLine := by have := r.un; omega

/-! ### argument lists and displays -/
def tNil : TA := fun _ H Q => Q [] H
def tCons (ta : TE) (tr : TA) : TA := fun σ H Q => ta σ H fun x H1 => tr σ H1 fun xs H2 => Q (x :: xs) H2
section
variable {X : Cx} {e : Expr} {es : List Expr} {te : TE} {t : TA} {pos : Pos}
theorem pa_nil : PA X [] tNil := fun _ _ _ _ H Q I h => Calls.spliced_nil ⟨[], H, I, .nil, h⟩
theorem pa_cons (ha : PE X e te) (hr : PA X es t) (hs : starEach (e :: es) X.env = (false, eval e X.env) :: starEach es X.env := by rfl) : PA X (e :: es) (tCons te t) := by
  intro pos pins s σ H Q I h
  rw [hs]
  show wpAny _ _ (spliced ((false, eval e X.env) :: backTo pos (starEach es X.env))) _ _ s
  refine Calls.spliced_cons (thn (ha pins s σ H _ I h) fun u s1 ⟨x, H1, I1, r1, q1⟩ => ?_)
  exact thn (hr pos pins s1 σ H1 _ I1 q1) fun us s2 ⟨xs, H2, I2, r2, q2⟩ => ⟨x :: xs, H2, I2, .cons r1 r2, q2⟩

/-- a tuple, a list of written items -/
def tTup (t : TA) : TE := fun σ H Q => t σ H fun xs H1 => xs.length ≤ sizeLine ∧ ∀ p, H1 p = none → Q (.ref p) (upd H1 p (.tup xs))
def tLst (t : TA) : TE := fun σ H Q => t σ H fun xs H1 => xs.length ≤ sizeLine ∧ ∀ p, H1 p = none → Q (.ref p) (upd H1 p (.lst xs))
theorem pe_tup {x1} (h : PA X es t) : PE X (.Tuple es x1 pos) (tTup t) := by
  intro pins s σ H Q I hq
  refine wpAny_Tuple_spliced (thn (h pos pins s σ H _ I hq) fun us s1 ⟨xs, H1, I1, r, z, q⟩ => ⟨by rw [← r.length]; exact z, ?_⟩)
  have hf : H1 s1.heap.objs.size = none := I1.hok.fresh (Nat.le_refl _)
  refine ⟨.ref s1.heap.objs.size, upd H1 s1.heap.objs.size (.tup xs), I1.laid (t' := s1.toks) (fun b u e => Heap.get?_push_of_some _ e) (Nat.le_refl _) ?_, rfl, q _ hf⟩
  exact ⟨z, us, r, ⟨_, Heap.get?_push_size _ rfl, rfl, _, rfl⟩⟩
theorem pe_lst (h : PA X es t) : PE X (.List es pos) (tLst t) := by
  intro pins s σ H Q I hq
  refine wpAny_List_spliced (thn (h pos pins s σ H _ I hq) fun us s1 ⟨xs, H1, I1, r, z, q⟩ => ⟨by rw [← r.length]; exact z, ?_⟩)
  have hf : H1 s1.heap.objs.size = none := I1.hok.fresh (Nat.le_refl _)
  refine ⟨.ref s1.heap.objs.size, upd H1 s1.heap.objs.size (.lst xs), I1.laid (t' := s1.toks) (fun b u e => Heap.get?_push_of_some _ e) (Nat.le_refl _) ?_, rfl, q _ hf⟩
  exact ⟨z, us, 0, r, Heap.get?_push_size _ rfl⟩
end

/-! ### what a def promises -/
/-- a def's promise: the bound arguments in the parameters' order, the heap, the wanted end, the wanted exception -/
abbrev Sp := List V → Hp → VK → XK → Prop
/-- how an exception lies behind a call (file 08 gives it): the callers' frames, abstract heap and state ahead of the call, the wish, the exception, the state -/
abbrev CXT := List Env → Hp → Shared → XK → Value → Shared → Prop

/-- the state at a call -/
structure Env0 (P : Program) (w : World) (K : PySem.W.Frag) (mg : Str → Option Value) (base : Heap) (A : Around) (outer : List Env) (s : Shared) (H : Hp) : Prop where
  frames : A.frames = some outer
  mod : Mod K mg base
  bs : ∀ b o, base.get? b = some o → s.heap.get? b = some o ∧ H b = none
  bsz : base.objs.size ≤ s.heap.objs.size
  funs : s.heap.FunFrames base outer
  frf : ∀ b ∈ frs outer, H b = none
  hok : HOk P w H s.heap
  bare : AllBare s.gens
/-- a call's end -/
def CE (outer : List Env) (P : Program) (w : World) (H : Hp) (s : Shared) (Q : VK) (u : Value) (s' : Shared) : Prop :=
  ∃ v H', s'.os = s.os ∧ AllBare s'.gens ∧ Un (frs outer) [] H H' s.heap s'.heap ∧ HOk P w H' s'.heap ∧ RelV v u ∧ Q v H'
def CR (CX : CXT) (outer : List Env) (P : Program) (w : World) (H : Hp) (s : Shared) (Q : VK) (E : XK) (r : Result) (s' : Shared) : Prop :=
  match r with
  | .ok (.ret u) => CE outer P w H s Q u s'
  | .ok _ => False
  | .error e => CX outer H s E e s'
structure FnOk (P : Program) (w : World) (K : PySem.W.Frag) (mg : Str → Option Value) (base : Heap) (CX : CXT) (k : Nat) (f : Addr) (fd : FuncData) (ps : List Str) (sp : Sp) : Prop where
  len : ∀ vs H Q E, sp vs H Q E → vs.length = ps.length
  run : ∀ (A : Around) (outer : List Env) (s : Shared) (H : Hp) (args : Args) (us : List Value) (vs : List V) (Q : VK) (E : XK), Room k A → Env0 P w K mg base A outer s H → BindsTo s fd args (ps.zip us) → Vals vs us → sp vs H Q E →
    codeAny (model P w) A (.call (.ref f) args) (CR CX outer P w H s Q E) s
theorem FnOk.mono {P : Program} {w : World} {K : PySem.W.Frag} {mg : Str → Option Value} {base : Heap} {CX : CXT} {j k : Nat} {f : Addr} {fd : FuncData} {ps : List Str} {sp : Sp} (F : FnOk P w K mg base CX j f fd ps sp) (h : j ≤ k) :
    FnOk P w K mg base CX k f fd ps sp := ⟨F.len, fun A outer s H args us vs Q E hr => F.run A outer s H args us vs Q E (hr.mono h)⟩
/-- a weaker promise -/
theorem FnOk.imp {P : Program} {w : World} {K : PySem.W.Frag} {mg : Str → Option Value} {base : Heap} {CX : CXT} {k : Nat} {f : Addr} {fd : FuncData} {ps : List Str} {sp sp' : Sp} (F : FnOk P w K mg base CX k f fd ps sp)
    (h : ∀ vs H Q E, sp' vs H Q E → sp vs H Q E) : FnOk P w K mg base CX k f fd ps sp' :=
  ⟨fun vs H Q E q => F.len vs H Q E (h _ _ _ _ q), fun A outer s H args us vs Q E hr he hb hv hs => F.run A outer s H args us vs Q E hr he hb hv (h _ _ _ _ hs)⟩

theorem Env0.make {P : Program} {w : World} {K : PySem.W.Frag} {mg : Str → Option Value} {base : Heap} {A : Around} {outer : List Env} {s : Shared} {H : Hp} (e : Env0 P w K mg base A outer s H) (C : Addr) (us : List Value) (kw : List (Str × Value)) :
    Env0 P w K mg base (A.under (.builtin "type.__call__" ⟨.ref C :: us, kw⟩)) outer s H := ⟨by first | exact e.frames | (simpa [Around.under, Code.envs, Code.isFrame, pushEnvs] using e.frames), e.mod, e.bs, e.bsz, e.funs, e.frf, e.hok, e.bare⟩
theorem Env0.in1 {P : Program} {w : World} {K : PySem.W.Frag} {mg : Str → Option Value} {base : Heap} {A : Around} {outer : List Env} {s : Shared} {H : Hp} (e : Env0 P w K mg base A outer s H) :
    Env0 P w K mg base A.in1 outer s H := ⟨e.frames, e.mod, e.bs, e.bsz, e.funs, e.frf, e.hok, e.bare⟩

section
variable {X : Cx} {pins : List (Addr × Obj)} {σ : St} {H : Hp} {s s' : Shared}
/-- from a body: what a callee wants -/
theorem Inv.env0 (I : Inv X pins σ H s) : Env0 X.prog X.w X.K X.mg X.base X.A X.stack s H :=
  ⟨I.ok.frames, I.ok.mod, I.bs, Nat.le_trans I.ok.bsz I.sz, I.stack, I.stkFree, I.hok, I.bare⟩
/-- behind a call -/
theorem Inv.after {Q : VK} {u : Value} (I : Inv X pins σ H s) (h : CE X.stack X.prog X.w H s Q u s') : EP X pins σ Q u s' := by
  obtain ⟨v, H', os, bare, un, hok, r, q⟩ := h
  obtain ⟨hh, g, d, t, os'⟩ := s'
  obtain rfl : os' = s.os := os
  exact ⟨v, H', I.call (h' := hh) (g' := g) (d' := d) (t' := t) (ch := []) un hok bare (fun b z => absurd z (by simp)), r, q⟩
end

/-! ### calls -/
/-- f(..): the written arguments, then the defaults dvs; E: what is wanted of an exception -/
def tCall (sp : Sp) (dvs : List V) (E : XK) (t : TA) : TE := fun σ H Q => t σ H fun vs H1 => sp (vs ++ dvs) H1 Q E
/-- o.m(..) of an instance of the class at C -/
def tMeth (C : Addr) (m : Str) (sp : Sp) (dvs : List V) (E : XK) (ta : TE) (t : TA) : TE := fun σ H Q => ta σ H fun x H1 => ∃ a dx fs, x = .ref a ∧ H1 a = some (.ins C dx fs) ∧ fs.lookup m = none ∧
  t σ H1 fun vs H2 => sp (x :: (vs ++ dvs)) H2 Q E
/-- C(..): a new instance and its dict, then __init__ -/
def tMake (C : Addr) (sp : Sp) (dvs : List V) (E : XK) (t : TA) : TE := fun σ H Q => t σ H fun vs H1 => ∀ x dx, H1 x = none → H1 dx = none → dx ≠ x →
  sp (.ref x :: (vs ++ dvs)) (upd (upd H1 dx (.own x)) x (.ins C dx [])) (fun v H2 => v = .non ∧ Q (.ref x) H2) E

/-- how the parameters are bound: us the positional arguments, kw the keywords' values by name, ds the defaults that fill up -/
def Binds (K : PySem.W.Frag) (fd : FuncData) (ps : List Str) (ds : List Value) : Prop :=
  ∀ (s : Shared) (us : List Value), K.In s.heap → (us ++ ds).length = ps.length → BindsTo s fd ⟨us, []⟩ (ps.zip (us ++ ds))
/-- every parameter is given -/
theorem Binds.all {K : PySem.W.Frag} {fd : FuncData} {ps : List Str} (h : ∀ us : List Value, us.length = ps.length → bindArgs fd ⟨us, []⟩ = pure (ps.zip us)) : Binds K fd ps [] := fun s us _ hl => by
  rw [List.append_nil] at hl ⊢
  exact .of_eq (h us hl)

/-- an exception of a callee reaches what this body wants of exceptions -/
def Passes (CX : CXT) (X : Cx) (E : XK) : Prop := ∀ (pins : List (Addr × Obj)) (σ : St) (H : Hp) (s : Shared) (e : Value) (s' : Shared), Inv X pins σ H s → CX X.stack H s E e s' → X.xe e s'

section
variable {X : Cx} {CX : CXT} {k : Nat} {f C : Addr} {fd : FuncData} {ps : List Str} {sp : Sp} {dvs : List V} {ds : List Value} {E : XK} {x m : Str} {p pos apos : Pos} {e o : Expr} {es : List Expr} {ta : TE} {t : TA}

/-- the callee runs -/
theorem run_fn {pins : List (Addr × Obj)} {σ : St} {H : Hp} {s : Shared} {Q : VK} {us : List Value} {vs : List V} (F : FnOk X.prog X.w X.K X.mg X.base CX k f fd ps sp) (hr : Room k X.A) (hb : Binds X.K fd ps ds) (hd : Vals dvs ds) (hx : Passes CX X E)
    (I : Inv X pins σ H s) (r : Vals vs us) (h : sp (vs ++ dvs) H Q E) : wpAny (model X.prog X.w) X.A (call (.ref f) us) (EP X pins σ Q) X.xe s := by
  have r2 : Vals (vs ++ dvs) (us ++ ds) := r.append hd
  have hl : (us ++ ds).length = ps.length := by rw [← r2.length]; exact F.len _ _ _ _ h
  refine wpAny_call (codeAny_mono (F.run X.A X.stack s H ⟨us, []⟩ (us ++ ds) (vs ++ dvs) Q E hr I.env0 (hb s us I.kIn hl) r2 h) fun r s' hq => ?_)
  cases r with
  | error e => exact hx pins σ H s e s' I hq
  | ok fl =>
    cases fl with
    | ret u => exact I.after hq
    | next => exact False.elim hq
    | brk => exact False.elim hq
    | cont => exact False.elim hq

theorem pe_call (F : FnOk X.prog X.w X.K X.mg X.base CX k f fd ps sp) (hr : Room k X.A) (hg : Gl X x) (hm : X.mg x = some (.ref f)) (hk : PySem.W.keepIn X.K (.ref f) = true) (hb : Binds X.K fd ps ds) (hd : Vals dvs ds) (hx : Passes CX X E)
    (ha : PA X (e :: es) t) (hdb : (x == ("__debug__" : Str)) = false := by decide) (he : starEach (e :: es) X.env = (false, eval e X.env) :: starEach es X.env := by rfl) (hpl : (backTo pos (starEach es X.env)).any (·.1) = false := by rfl) :
    PE X (.Call (.Name x p) (e :: es) [] pos) (tCall sp dvs E t) := by
  intro pins s σ H Q I h
  refine wpAny_Call_Name_kw (ld_glob I hg hm ?_ hdb)
  refine PySem.W.callWith_K (h₀ := X.base) I.ok.mod.kin hk (thn (ha pos pins s σ H _ I h) fun us s1 ⟨vs, H1, I1, r, q⟩ => ⟨I1.kIn, ?_⟩) he hpl
  exact run_fn F hr hb hd hx I1 r q
theorem pe_call0 (F : FnOk X.prog X.w X.K X.mg X.base CX k f fd ps sp) (hr : Room k X.A) (hg : Gl X x) (hm : X.mg x = some (.ref f)) (hk : PySem.W.keepIn X.K (.ref f) = true) (hb : Binds X.K fd ps ds) (hd : Vals dvs ds) (hx : Passes CX X E)
    (hdb : (x == ("__debug__" : Str)) = false := by decide) : PE X (.Call (.Name x p) [] [] pos) (tCall sp dvs E tNil) := by
  intro pins s σ H Q I h
  refine wpAny_Call_Name_kw (ld_glob I hg hm ?_ hdb)
  exact PySem.W.callWith_K0 I.kIn hk (run_fn (us := []) F hr hb hd hx I .nil h)

/-- o.m(e, ..) -/
theorem pe_meth {pl : Sem Bool} (he : PE X o ta) (c : Cls X.K C) (hm : Meth X.K C m f) (F : FnOk X.prog X.w X.K X.mg X.base CX k f fd ps sp) (hr : Room k X.A) (hb : Binds X.K fd ps ds) (hd : Vals dvs ds) (hx : Passes CX X E) (ha : PA X (e :: es) t)
    (hst : starEach (e :: es) X.env = (false, eval e X.env) :: starEach es X.env := by rfl) (hpl : (backTo pos (starEach es X.env)).any (·.1) = false := by rfl)
    (ht : eval (.Call (.Attribute o m apos) (e :: es) [] pos) X.env = (do
      let ov ← eval o X.env
      standAt apos.atName
      let (f, first) ← holding [ov] (getMethod ov m pl)
      callWith pos f first (backTo pos (starEach (e :: es) X.env)) (backToKw pos (keywordEach [] X.env))) := by rfl) :
    PE X (.Call (.Attribute o m apos) (e :: es) [] pos) (tMeth C m sp dvs E ta t) := by
  intro pins s σ H Q I h
  refine PySem.W.methodCall_KW (pl := pl) (thn (he pins s σ H _ I h) fun u s1 ⟨x, H1, I1, rx, a, dx, fs, ex, ea, l, q⟩ => ?_) ht
  subst ex
  obtain rfl : u = Value.ref a := rx
  refine getmeth_ok I1 ea c hm l ?_
  refine PySem.W.callWith_K (first := [.ref a]) (h₀ := X.base) I.ok.mod.kin hm.kp (thn (ha pos pins s1 σ H1 _ I1 q) fun us s2 ⟨vs, H2, I2, r, q2⟩ => ⟨I2.kIn, ?_⟩) hst hpl
  exact run_fn (us := .ref a :: us) (vs := .ref a :: vs) F hr hb hd hx I2 (.cons rfl r) q2
/-- o.m() -/
theorem pe_meth0 {pl : Sem Bool} (he : PE X o ta) (c : Cls X.K C) (hm : Meth X.K C m f) (F : FnOk X.prog X.w X.K X.mg X.base CX k f fd ps sp) (hr : Room k X.A) (hb : Binds X.K fd ps ds) (hd : Vals dvs ds) (hx : Passes CX X E)
    (ht : eval (.Call (.Attribute o m apos) [] [] pos) X.env = (do
      let ov ← eval o X.env
      standAt apos.atName
      let (f, first) ← holding [ov] (getMethod ov m pl)
      callWith pos f first (backTo pos (starEach [] X.env)) (backToKw pos (keywordEach [] X.env))) := by rfl) :
    PE X (.Call (.Attribute o m apos) [] [] pos) (tMeth C m sp dvs E ta tNil) := by
  intro pins s σ H Q I h
  refine PySem.W.methodCall_KW (pl := pl) (thn (he pins s σ H _ I h) fun u s1 ⟨x, H1, I1, rx, a, dx, fs, ex, ea, l, q⟩ => ?_) ht
  subst ex
  obtain rfl : u = Value.ref a := rx
  refine getmeth_ok I1 ea c hm l ?_
  exact PySem.W.callWith_K0 (first := [.ref a]) I1.kIn hm.kp (run_fn (us := [.ref a]) (vs := [.ref a]) F hr hb hd hx I1 (.cons rfl .nil) q)

/-- what a class must have to be made -/
structure Mk (K : PySem.W.Frag) (C f : Addr) : Prop where
  makes : PySem.W.makesIn K C = true
  init : PySem.W.findIn K (.ref C) "__init__" = some (some (.ref f))
  fn : PySem.W.isFn K (.ref f) = true
  kp : PySem.W.keepIn K (.ref C) = true

theorem run_make {pins : List (Addr × Obj)} {σ : St} {H : Hp} {s : Shared} {Q : VK} {us : List Value} {vs : List V} (M : Mk X.K C f) (F : FnOk X.prog X.w X.K X.mg X.base CX k f fd ps sp) (hr : Room (k + 1) X.A) (hb : Binds X.K fd ps ds) (hd : Vals dvs ds)
    (hx : Passes CX X E) (I : Inv X pins σ H s) (r : Vals vs us)
    (h : ∀ x dx, H x = none → H dx = none → dx ≠ x → sp (.ref x :: (vs ++ dvs)) (upd (upd H dx (.own x)) x (.ins C dx [])) (fun v H2 => v = .non ∧ Q (.ref x) H2) E) :
    wpAny (model X.prog X.w) X.A (call (.ref C) us) (EP X pins σ Q) X.xe s := by
  have hq := h (s.heap.objs.size + 1) s.heap.objs.size (I.hok.fresh (Nat.le_succ _)) (I.hok.fresh (Nat.le_refl _)) (Nat.ne_of_lt (Nat.lt_succ_self _))
  have I2 := Inv.made (C := C) I
  have r2 : Vals (V.ref (s.heap.objs.size + 1) :: (vs ++ dvs)) (Value.ref (s.heap.objs.size + 1) :: (us ++ ds)) := .cons rfl (r.append hd)
  have hl : (Value.ref (s.heap.objs.size + 1) :: us ++ ds).length = ps.length := by
    have e := r2.length
    rw [F.len _ _ _ _ hq] at e
    exact e.symm
  refine wpAny_call (make_map (f := f) I.kIn M.makes M.init (beq_iff_eq.mp M.fn) (codeAny_mono (F.run _ X.stack _ _ ⟨Value.ref (s.heap.objs.size + 1) :: us, []⟩ (Value.ref (s.heap.objs.size + 1) :: (us ++ ds)) _ _ E (hr.make C us [])
    (I2.env0.make C us []) (hb _ (Value.ref (s.heap.objs.size + 1) :: us) I2.kIn hl) r2 hq) fun r s' hq' => ?_))
  cases r with
  | error e => exact hx pins σ _ _ e s' I2 hq'
  | ok fl =>
    cases fl with
    | ret u =>
      obtain ⟨v, H', I3, rv, ev, q3⟩ := I2.after hq'
      subst ev
      exact ⟨rv, ⟨V.ref (s.heap.objs.size + 1), H', I3, rfl, q3⟩⟩
    | next => exact False.elim hq'
    | brk => exact False.elim hq'
    | cont => exact False.elim hq'
theorem pe_make (M : Mk X.K C f) (F : FnOk X.prog X.w X.K X.mg X.base CX k f fd ps sp) (hr : Room (k + 1) X.A) (hg : Gl X x) (hm : X.mg x = some (.ref C)) (hb : Binds X.K fd ps ds) (hd : Vals dvs ds) (hx : Passes CX X E)
    (ha : PA X (e :: es) t) (hdb : (x == ("__debug__" : Str)) = false := by decide) (he : starEach (e :: es) X.env = (false, eval e X.env) :: starEach es X.env := by rfl) (hpl : (backTo pos (starEach es X.env)).any (·.1) = false := by rfl) :
    PE X (.Call (.Name x p) (e :: es) [] pos) (tMake C sp dvs E t) := by
  intro pins s σ H Q I h
  refine wpAny_Call_Name_kw (ld_glob I hg hm ?_ hdb)
  refine PySem.W.callWith_K (h₀ := X.base) I.ok.mod.kin M.kp (thn (ha pos pins s σ H _ I h) fun us s1 ⟨vs, H1, I1, r, q⟩ => ⟨I1.kIn, ?_⟩) he hpl
  exact run_make M F hr hb hd hx I1 r q
theorem pe_make0 (M : Mk X.K C f) (F : FnOk X.prog X.w X.K X.mg X.base CX k f fd ps sp) (hr : Room (k + 1) X.A) (hg : Gl X x) (hm : X.mg x = some (.ref C)) (hb : Binds X.K fd ps ds) (hd : Vals dvs ds) (hx : Passes CX X E)
    (hdb : (x == ("__debug__" : Str)) = false := by decide) : PE X (.Call (.Name x p) [] [] pos) (tMake C sp dvs E tNil) := by
  intro pins s σ H Q I h
  refine wpAny_Call_Name_kw (ld_glob I hg hm ?_ hdb)
  exact PySem.W.callWith_K0 I.kIn M.kp (run_make (us := []) M F hr hb hd hx I .nil h)
end

/-! ### keywords -/
/-- the values of the keywords, from the left -/
def PK (X : Cx) (kws : List Keyword) (t : TA) : Prop :=
  ∀ (pos : Pos) (pins : List (Addr × Obj)) (s : Shared) (σ : St) (H : Hp) (Q : List V → Hp → Prop), Inv X pins σ H s → t σ H Q → wpAny (model X.prog X.w) X.A (evalAll ((backToKw pos (keywordEach kws X.env)).map (·.2))) (AP X pins σ Q) X.xe s
section
variable {X : Cx} {CX : CXT} {k : Nat} {f C : Addr} {fd : FuncData} {ps ks : List Str} {sp : Sp} {E : XK} {x m : Str} {p pos apos kpos : Pos} {e o : Expr} {es : List Expr} {kws : List Keyword} {te ta : TE} {t tk : TA} {nm : Option Str}
theorem pk_nil : PK X [] tNil := fun _ _ _ _ H Q I h => wpAny_evalAll_nil ⟨[], H, I, .nil, h⟩
theorem pk_cons (ha : PE X e te) (hr : PK X kws t) : PK X (⟨nm, e, kpos⟩ :: kws) (tCons te t) := by
  intro pos pins s σ H Q I h
  show wpAny _ _ (evalAll ((do let v ← eval e X.env; standAt pos; pure v) :: (backToKw pos (keywordEach kws X.env)).map (·.2))) _ _ s
  refine wpAny_evalAll_cons (wpAny_bind (thn (ha pins s σ H _ I h) fun u s1 ⟨x, H1, I1, r1, q1⟩ => wpAny_bind (wpAny_standAt (wpAny_pure ?_))))
  exact thn (hr pos pins s1 σ H1 _ I1 q1) fun us s2 ⟨xs, H2, I2, r2, q2⟩ => ⟨x :: xs, H2, I2, .cons r1 r2, q2⟩

/-- how a call with keywords binds: g puts the positional values us and the keywords' values ws (names ks) in the parameters' order, defaults among them -/
structure KBinds (K : PySem.W.Frag) (fd : FuncData) (ps ks : List Str) (g : List Value → List Value → List Value) (gV : List V → List V → List V) : Prop where
  to : ∀ (s : Shared) (us ws : List Value), K.In s.heap → (g us ws).length = ps.length → BindsTo s fd ⟨us, ks.zip ws⟩ (ps.zip (g us ws))
  rel : ∀ {vs : List V} {us : List Value} {zs : List V} {ws : List Value}, Vals vs us → Vals zs ws → Vals (gV vs zs) (g us ws)
def tCallK (sp : Sp) (gV : List V → List V → List V) (E : XK) (t tk : TA) : TE := fun σ H Q => t σ H fun vs H1 => tk σ H1 fun zs H2 => sp (gV vs zs) H2 Q E
variable {g : List Value → List Value → List Value} {gV : List V → List V → List V}
theorem run_fnk {pins : List (Addr × Obj)} {σ : St} {H : Hp} {s : Shared} {Q : VK} {us ws : List Value} {vs zs : List V} (F : FnOk X.prog X.w X.K X.mg X.base CX k f fd ps sp) (hr : Room k X.A) (hb : KBinds X.K fd ps ks g gV) (hx : Passes CX X E)
    (I : Inv X pins σ H s) (r : Vals vs us) (rz : Vals zs ws) (h : sp (gV vs zs) H Q E) : wpAny (model X.prog X.w) X.A (call (.ref f) us (ks.zip ws)) (EP X pins σ Q) X.xe s := by
  have r2 := hb.rel r rz
  have hl : (g us ws).length = ps.length := by rw [← r2.length]; exact F.len _ _ _ _ h
  refine wpAny_call (codeAny_mono (F.run X.A X.stack s H ⟨us, ks.zip ws⟩ (g us ws) (gV vs zs) Q E hr I.env0 (hb.to s us ws I.kIn hl) r2 h) fun r s' hq => ?_)
  cases r with
  | error e => exact hx pins σ H s e s' I hq
  | ok fl =>
    cases fl with
    | ret u => exact I.after hq
    | next => exact False.elim hq
    | brk => exact False.elim hq
    | cont => exact False.elim hq
/-- f(e, .., k = v, ..) -/
theorem pe_callK (F : FnOk X.prog X.w X.K X.mg X.base CX k f fd ps sp) (hr : Room k X.A) (hg : Gl X x) (hm : X.mg x = some (.ref f)) (hk : PySem.W.keepIn X.K (.ref f) = true) (hb : KBinds X.K fd ps ks g gV) (hx : Passes CX X E)
    (ha : PA X (e :: es) t) (hkw : PK X kws tk) (hall : (backToKw pos (keywordEach kws X.env)).all (·.1.isSome) = true := by rfl) (hks : (backToKw pos (keywordEach kws X.env)).filterMap (·.1) = ks := by rfl)
    (hdb : (x == ("__debug__" : Str)) = false := by decide) (he : starEach (e :: es) X.env = (false, eval e X.env) :: starEach es X.env := by rfl)
    (hpl : ((backTo pos (starEach (e :: es) X.env)).any (·.1) || (backToKw pos (keywordEach kws X.env)).any (·.1.isNone)) = false := by rfl) :
    PE X (.Call (.Name x p) (e :: es) kws pos) (tCallK sp gV E t tk) := by
  intro pins s σ H Q I h
  refine wpAny_Call_Name_kw (ld_glob I hg hm ?_ hdb)
  refine PySem.W.callWith_KW (h₀ := X.base) I.ok.mod.kin hk hall (thn (ha pos pins s σ H _ I h) fun us s1 ⟨vs, H1, I1, r, q⟩ => ?_) hpl he
  refine thn (hkw pos pins s1 σ H1 _ I1 q) fun ws s2 ⟨zs, H2, I2, rz, q2⟩ => ⟨I2.kIn, ?_⟩
  rw [hks]
  exact run_fnk F hr hb hx I2 r rz q2
end

/-! ### a def's body keeps its promise -/
/-- names: the parameters first -/
structure FnScope (N P : List Str) (sc : Scope) : Prop where
  kind : sc.kind = .function
  co : sc.isCoroutine = false
  gen : sc.isGenerator = false
  nd : N.Nodup
  pre : N.take P.length = P
  par : ∀ x ∈ P, sc.names.lookup x = some .local ∨ sc.names.lookup x = some .cell
  nofree : ∀ y ∈ sc.names, y.2 ≠ .free

theorem bindL_out {kindOf : Str → Option NameKind} {x : Str} : ∀ {binds : List (Str × Value)} {m : Str → Option Value}, (∀ v, (x, v) ∉ binds) → bindL kindOf binds m x = m x
  | [], _, _ => rfl
  | (n, v) :: r, m, h => by
    unfold bindL
    rw [bindL_out fun w hw => h w (List.mem_cons_of_mem _ hw)]
    split
    · have : x ≠ n := by rintro rfl; exact h v List.mem_cons_self
      simp [this]
    · rfl
theorem bindC_out {kindOf : Str → Option NameKind} {x : Str} : ∀ {binds : List (Str × Value)} {m : Str → Option Value}, (∀ v, (x, v) ∉ binds) → bindC kindOf binds m x = m x
  | [], _, _ => rfl
  | (n, v) :: r, m, h => by
    unfold bindC
    rw [bindC_out fun w hw => h w (List.mem_cons_of_mem _ hw)]
    split
    · rfl
    · have : x ≠ n := by rintro rfl; exact h v List.mem_cons_self
      simp [this]
theorem bindL_get {kindOf : Str → Option NameKind} {x : Str} {v : Value} : ∀ {P : List Str} {vs : List Value} {i : Nat} {m : Str → Option Value}, P.Nodup → P[i]? = some x → vs[i]? = some v → kindOf x = some .local →
    bindL kindOf (P.zip vs) m x = some v
  | [], _, _, _, _, h, _, _ => by simp at h
  | _ :: _, [], _, _, _, _, h, _ => by simp at h
  | p :: P, w :: vs, 0, m, nd, h1, h2, hk => by
    simp at h1 h2; subst h1; subst h2
    show bindL kindOf ((p, w) :: P.zip vs) m p = _
    unfold bindL
    rw [bindL_out fun v hv => (List.nodup_cons.mp nd).1 (List.of_mem_zip hv).1, if_pos hk]
    simp
  | p :: P, w :: vs, i + 1, m, nd, h1, h2, hk => by
    show bindL kindOf ((p, w) :: P.zip vs) m x = _
    unfold bindL
    exact bindL_get (i := i) (List.nodup_cons.mp nd).2 (by simpa using h1) (by simpa using h2) hk
theorem bindC_get {kindOf : Str → Option NameKind} {x : Str} {v : Value} : ∀ {P : List Str} {vs : List Value} {i : Nat} {m : Str → Option Value}, P.Nodup → P[i]? = some x → vs[i]? = some v → kindOf x ≠ some .local →
    bindC kindOf (P.zip vs) m x = some v
  | [], _, _, _, _, h, _, _ => by simp at h
  | _ :: _, [], _, _, _, _, h, _ => by simp at h
  | p :: P, w :: vs, 0, m, nd, h1, h2, hk => by
    simp at h1 h2; subst h1; subst h2
    show bindC kindOf ((p, w) :: P.zip vs) m p = _
    unfold bindC
    rw [bindC_out fun v hv => (List.nodup_cons.mp nd).1 (List.of_mem_zip hv).1, if_neg hk]
    simp
  | p :: P, w :: vs, i + 1, m, nd, h1, h2, hk => by
    show bindC kindOf ((p, w) :: P.zip vs) m x = _
    unfold bindC
    exact bindC_get (i := i) (List.nodup_cons.mp nd).2 (by simpa using h1) (by simpa using h2) hk

/-- the names' values at the entry -/
def start (N : List Str) (vs : List V) : St := vs.map some ++ List.replicate (N.length - vs.length) none

/-- the context of a def's body, at its entry; an exception leaves the frame, then lies as CX says -/
def cxOf (CX : CXT) (P : Program) (w : World) (K : PySem.W.Frag) (mg : Str → Option Value) (base : Heap) (N : List Str) (qual : Str) (scope : Scope) (f : Addr) (cd : Value) (A : Around) (outer : List Env) (s : Shared) (H : Hp) (E : XK) : Cx where
  prog := P
  w := w
  K := K
  mg := mg
  base := base
  A := A.deeper (envOfC qual scope s.heap.objs.size f cd)
  N := N
  s₀ := s
  H₀ := H
  env := envOfC qual scope s.heap.objs.size f cd
  outer := outer
  stack := envOfC qual scope s.heap.objs.size f cd :: outer
  ex := []
  calm := true
  fn := fun _ => true
  pn := []
  xe := fun e s' => wpAny (model P w) (A.deeper (envOfC qual scope s.heap.objs.size f cd)) (leaving (envOfC qual scope s.heap.objs.size f cd) e) (fun _ s'' => CX outer H s E e s'') (fun e' s'' => CX outer H s E e' s'') s'

theorem cell_has {sc : Scope} {n : Nat} {x : Str} (h : sc.names.lookup x = some .cell) : ∃ c, (cellsFrom n sc.names []).lookup x = some c := by
  have q := PySem.W.cellsFrom_some sc.names n [] (.inl h)
  exact Option.isSome_iff_exists.mp q

theorem inv_start {CX : CXT} {P : Program} {w : World} {K : PySem.W.Frag} {mg : Str → Option Value} {base : Heap} {N ps : List Str} {qual : Str} {scope : Scope} {f : Addr} {cd : Value} {A : Around} {outer : List Env} {s s1 : Shared} {H : Hp} {E : XK} {us : List Value} {vs : List V}
    (S : FnScope N ps scope) (hd : A.handled = none) (e0 : Env0 P w K mg base A outer s H) (hl : vs.length = ps.length) (r : Vals vs us)
    (x : InCallC s s.heap.objs.size (bindL (envOfC qual scope s.heap.objs.size f cd).kindOf (ps.zip us) fun _ => none) (cellsFrom (s.heap.objs.size + 1) scope.names []) (bindC (envOfC qual scope s.heap.objs.size f cd).kindOf (ps.zip us) fun _ => none) s1) :
    Inv (cxOf CX P w K mg base N qual scope f cd A outer s H E) [] (start N vs) H s1 := by
  have hpl : ps.length ≤ N.length := by have := congrArg List.length S.pre; rw [List.length_take] at this; omega
  obtain ⟨h1, tk, rfl, hk⟩ := x.done
  have noA : ∀ b : Addr, b ∉ (cxOf CX P w K mg base N qual scope f cd A outer s H E).ex := fun b z => absurd (show b ∈ ([] : List Addr) from z) (by simp)
  refine ⟨⟨e0.mod, S.kind, rfl, rfl, Nat.le_refl _, fun y z c h1 h2 => ?_, fun y hy => ?_, fun y c _ h => ?_, fun _ => hd, Around.frames_deeper e0.frames, .inr ⟨rfl, rfl⟩, fun b z => absurd z (noA b), e0.bs, e0.bsz, fun b _ _ => noA b, fun b z => absurd z (noA b), e0.funs, e0.frf⟩,
    rfl, e0.bare, Un.kept hk, ⟨_, x.toInCall.ns, fun i y v h1 h2 h3 => ?_⟩, fun y c h => ⟨_, x.cell y c h⟩, e0.hok.fresh (Nat.le_refl _), fun y c h => ?_, fun p hp => absurd (show p ∈ ([] : List (Addr × Obj)) from hp) (by simp), e0.hok.kept hk, ?_⟩
  · exact name_of_addr x.apart (PySem.mem_of_lookup h1) (PySem.mem_of_lookup h2)
  · have hy : scope.names.lookup y = some .cell ∨ scope.names.lookup y = some .free := hy
    rcases hy with hy | hy
    · exact cell_has hy
    · exact absurd rfl (S.nofree _ (PySem.mem_of_lookup hy))
  · exact Nat.le_of_lt (x.above y c (PySem.mem_of_lookup h))
  · have hi : i < vs.length := by
      unfold start at h2
      by_cases hi : i < vs.length
      · exact hi
      · rw [List.getElem?_append_right (by simpa using hi)] at h2
        rw [List.getElem?_replicate] at h2
        split at h2 <;> cases h2
    have ha : vs[i]? = some v := by
      unfold start at h2
      rw [List.getElem?_append_left (by simpa using hi), List.getElem?_map] at h2
      cases e : vs[i]? with
      | none => rw [e] at h2; cases h2
      | some a => rw [e] at h2; cases h2; rfl
    obtain ⟨u, hu, rv⟩ := r.get ha
    have hp : ps[i]? = some y := by
      rw [← S.pre, List.getElem?_take_of_lt (by omega)]; exact h1
    have ndP : ps.Nodup := by rw [← S.pre]; exact S.nd.sublist (List.take_sublist _ _)
    refine ⟨u, rv, ?_⟩
    rcases S.par y (List.mem_of_getElem? hp) with k | k
    · exact .inl ⟨k, bindL_get ndP hp hu k⟩
    · obtain ⟨c, e⟩ := cell_has (n := s.heap.objs.size + 1) k
      refine .inr ⟨.inl k, c, e, ?_⟩
      have q := x.cell y c e
      rw [bindC_get ndP hp hu (by show scope.names.lookup y ≠ _; rw [k]; decide)] at q
      exact q
  · exact e0.hok.fresh (Nat.le_of_lt (x.above y c (PySem.mem_of_lookup h)))
  · unfold start
    show _ = N.length
    rw [List.length_append, List.length_map, List.length_replicate]
    omega

/-- THE RULE: a def (or a method) of the text, by its body. The body's reading t is chosen for each entry; it is run at the parameters' values -/
theorem fn_of {CX : CXT} {P : Program} {w : World} {K : PySem.W.Frag} {mg : Str → Option Value} {base : Heap} {k : Nat} {f : Addr} {name qual : Str} {params : Arguments} {body : List Stmt} {scope : Scope} {dV kV doc pm cdv ct oc : Value} {an od : Option Addr}
    {osl : Array (Option Value)} {N ps : List Str} {sp : Sp} (lk : K.lookup f = some ⟨oc, od, .func (PySem.W.fnOf name qual params body scope dV kV doc pm an cdv ct), osl⟩) (hcd : PySem.W.codeIn K cdv qual = true) (S : FnScope N ps scope)
    (len : ∀ vs H Q E, sp vs H Q E → vs.length = ps.length)
    (hbody : ∀ (A : Around) (outer : List Env) (s : Shared) (H : Hp) (vs : List V) (Q : VK) (E : XK), Room k (A.deeper (envOfC qual scope s.heap.objs.size f cdv)) → sp vs H Q E →
      ∃ t, PSs (cxOf CX P w K mg base N qual scope f cdv A outer s H E) body t ∧ t { nx := fun _ H' => Q .non H', rt := Q } (start N vs) H) :
    FnOk P w K mg base CX (k + 1) f (PySem.W.fnOf name qual params body scope dV kV doc pm an cdv ct) ps sp := by
  refine ⟨len, fun A outer s H args us vs Q E hr e0 hb r hsp => ?_⟩
  have hl := len _ _ _ _ hsp
  have KX : K.In s.heap := e0.mod.kin.keeps fun b o e => (e0.bs b o e).1
  have lim : s.heap.NoLimit := e0.mod.nolimit.keeps fun b o e => (e0.bs b o e).1
  have hkind : ∀ y ∈ ps.zip us, scope.names.lookup y.1 = some .local ∨ (scope.names.lookup y.1 = some .cell ∧ ((cellsFrom (s.heap.objs.size + 1) scope.names []).lookup y.1).isSome = true) := fun ⟨n, v⟩ hy => by
    rcases S.par n (List.of_mem_zip hy).1 with q | q
    · exact .inl q
    · exact .inr ⟨q, PySem.W.cellsFrom_some _ _ _ (.inl q)⟩
  refine codeAny_call_function hr.depth (KX _ _ lk) rfl S.co S.gen rfl (PySem.W.codeRec_of KX hcd) (hb _ _ _ _ ?_)
  refine wpAny_newFunctionEnv_cells S.kind hkind fun env he s1 x => ?_
  subst he
  refine ⟨lim.keeps x.toInCall.keep, codeAny_func ?_⟩
  obtain ⟨t, ht, hq⟩ := hbody A outer s H vs Q E (hr.deeper _) hsp
  have I : Inv (cxOf CX P w K mg base N qual scope f cdv A outer s H E) [] (start N vs) H s1 := inv_start S hr.hd e0 hl r x
  refine wpAny_mono (ht [] s1 (start N vs) H _ I hq) (fun fl s' hs => ?_) fun e s' hs => hs
  have fin : ∀ {σ' : St} {H' : Hp} {v : V} {u : Value}, Inv (cxOf CX P w K mg base N qual scope f cdv A outer s H E) [] σ' H' s' → RelV v u → Q v H' → CE outer P w H s Q u s' :=
    fun {σ' H' v u} J rv q => ⟨v, H', J.os, J.bare, J.base, J.hok, rv, q⟩
  cases fl with
  | ret u =>
    obtain ⟨v, σ', H', J, rv, q⟩ := hs
    exact fin J rv q
  | next =>
    obtain ⟨σ', H', J, q⟩ := hs
    exact fin (v := V.non) (u := Value.none) J rfl q
  | brk =>
    obtain ⟨_, _, _, q⟩ := hs
    exact False.elim q
  | cont =>
    obtain ⟨_, _, _, q⟩ := hs
    exact False.elim q
end L2

namespace L2
open PySem PySem.Spec PyProof.Rows
section
variable {X : Cx} {x : Str} {p pos : Pos} {e : Expr} {es : List Expr} {t : TA} {id T : String} {r : List V → Hp → VK → Prop}

def tCB (r : List V → Hp → VK → Prop) (t : TA) : TE := fun σ H Q => t σ H fun vs H1 => r vs H1 Q
/-- f(e, ..), f a built-in function -/
theorem pe_callB (hc : CallR X (.builtin id) r) (hg : Gl X x) (hm : X.mg x = none) (hv : bootBuiltins x = some (.builtin id)) (ha : PA X (e :: es) t) (hn : x ≠ "__name__" := by decide) (hdb : (x == ("__debug__" : Str)) = false := by decide)
    (he : starEach (e :: es) X.env = (false, eval e X.env) :: starEach es X.env := by rfl) (hpl : (backTo pos (starEach es X.env)).any (·.1) = false := by rfl) : PE X (.Call (.Name x p) (e :: es) [] pos) (tCB r t) := by
  intro pins s σ H Q I h
  refine wpAny_Call_Name_kw (ld_blt I hg hm hv ?_ hn hdb)
  exact PyProof.Rows.callWith_builtin1 (thn (ha pos pins s σ H _ I h) fun us s1 ⟨vs, H1, I1, r1, q1⟩ => hc pins s1 σ H1 vs us Q I1 r1 q1) he hpl
/-- T(e, ..), T a built-in type -/
theorem pe_callTy (hc : CallR X (.type T) r) (hg : Gl X x) (hm : X.mg x = none) (hv : bootBuiltins x = some (.type T)) (ha : PA X (e :: es) t) (hn : x ≠ "__name__" := by decide) (hdb : (x == ("__debug__" : Str)) = false := by decide)
    (he : starEach (e :: es) X.env = (false, eval e X.env) :: starEach es X.env := by rfl) (hpl : (backTo pos (starEach es X.env)).any (·.1) = false := by rfl) : PE X (.Call (.Name x p) (e :: es) [] pos) (tCB r t) := by
  intro pins s σ H Q I h
  refine wpAny_Call_Name_kw (ld_blt I hg hm hv ?_ hn hdb)
  exact PyProof.Rows.callWith_type1 (thn (ha pos pins s σ H _ I h) fun us s1 ⟨vs, H1, I1, r1, q1⟩ => hc pins s1 σ H1 vs us Q I1 r1 q1) he hpl
/-- T() -/
theorem pe_callTy0 (hc : CallR X (.type T) r) (hg : Gl X x) (hm : X.mg x = none) (hv : bootBuiltins x = some (.type T)) (hn : x ≠ "__name__" := by decide) (hdb : (x == ("__debug__" : Str)) = false := by decide) :
    PE X (.Call (.Name x p) [] [] pos) (tCB r tNil) := by
  intro pins s σ H Q I h
  refine wpAny_Call_Name_kw (ld_blt I hg hm hv ?_ hn hdb)
  exact PyProof.Rows.callWith_type0 (hc pins s σ H [] [] Q I .nil h)
end
end L2

namespace HT
open PySem PyProof.Rows

/-- t < u of tuples of ints -/
def lexLt : List Int → List Int → Bool
  | [], [] => false
  | [], _ :: _ => true
  | _ :: _, [] => false
  | x :: xs, y :: ys => if x = y then lexLt xs ys else decide (x < y)
theorem lexLt_cons (x y : Int) (xs ys : List Int) : lexLt (x :: xs) (y :: ys) = if x = y then lexLt xs ys else decide (x < y) := rfl
theorem lexLt_nil_nil : lexLt [] [] = false := rfl
theorem lexLt_nil_cons (y : Int) (ys : List Int) : lexLt [] (y :: ys) = true := rfl
theorem lexLt_cons_nil (x : Int) (xs : List Int) : lexLt (x :: xs) [] = false := rfl

theorem eqAt_int (A : Around) (s : Shared) (a : Int) (t : Tok) (c : Int) (u : Tok) : ∃ e, SeqAt.EqAt A s (.int a t) (.int c u) e ∧ (e = true ↔ a = c) :=
  ⟨(a == c), SeqAt.EqAt.int_int a t c u, by simp⟩
theorem rcLt_int (A : Around) (s : Shared) (a : Int) (t : Tok) (c : Int) (u : Tok) (prog : Program) (w : World) (E : Value → Shared → Prop) (Q : Value → Shared → Prop) (h : Q (.bool (decide (a < c))) s) :
    wpAny (model prog w) A (richCompare .Lt (.int a t) (.int c u)) Q E s :=
  (PyProof.Rows.lt_int h : wpAny (model prog w) A (compareOp .Lt (.int a t) (.int c u)) Q E s)

section
open PySem.SeqAt
open PySem.AutoSeq1 (wpAny_loadPart')
open PySem.MeetsSeq PySem.MeetsSeq2 PySem.MeetsSeq3

theorem tuple_lt_ints (l b : Addr) (items items2 : Array Value) (n n2 : Nat) (dd dd2 : Option Addr) (sl sl2 : Array (Option Value)) (ns ms : List Int) (hi : IntsAre items.toList ns) (hj : IntsAre items2.toList ms) :
    Meets (Builtin.«tuple.__lt__» ⟨[.ref l, .ref b], []⟩)
      (fun _ R s => s.heap.get? l = some { cls := .type "tuple", dict := dd, data := .seq items n, slots := sl } ∧ s.heap.get? b = some { cls := .type "tuple", dict := dd2, data := .seq items2 n2, slots := sl2 } ∧
        R (.ok (.ret (.bool (lexLt ns ms)))) s) :=
  .of_wp fun prog w A R s h => by
    obtain ⟨hp, g, d, tk, os⟩ := s; obtain ⟨hl, hb, h⟩ := h
    have f2 := AutoSeq1.sub_tuple_tuple
    have z1 : items.size = ns.length := by rw [← hi.length]; simp
    have z2 : items2.size = ms.length := by rw [← hj.length]; simp
    wp_walk using wpAny_loadPart' hl, wpAny_loadPart' hb, wpAny_forIn_list _ (fun rest b s' => b.1 = none ∧ s' = ⟨hp, g, d, tk, os⟩ ∧ ∃ (vs ws : List Value) (ns' ms' : List Int), rest = vs.zip ws ∧
      IntsAre vs ns' ∧ IntsAre ws ms' ∧ ns'.length + items2.size = ms'.length + items.size ∧ R (.ok (.ret (.bool (lexLt ns' ms')))) ⟨hp, g, d, tk, os⟩) _
    case turn =>
      rintro ⟨y, x⟩ rest b s' ⟨hb', rfl, vs, ws, ns', ms', hz, hvi, hwi, hlen, hR⟩
      cases hvi with
      | nil => rw [List.zip_nil_left] at hz; cases hz
      | cons a t hvi' =>
        cases hwi with
        | nil => rw [List.zip_nil_right] at hz; cases hz
        | cons c u hwi' =>
          rw [List.zip_cons_cons] at hz
          injection hz with hyx hrest
          injection hyx with hy hx
          subst hy hx
          rw [lexLt_cons] at hR
          simp only [List.length_cons] at hlen
          obtain ⟨e, he, hiff⟩ := eqAt_int A.in1 ⟨hp, g, d, tk, os⟩ a t c u
          refine wpAny_bind (he prog w _ _ ?_)
          cases e with
          | true =>
            rw [if_pos (hiff.mp rfl)] at hR
            wp_walk
            exact ⟨rfl, rfl, _, _, _, _, hrest, hvi', hwi', by omega, hR⟩
          | false =>
            rw [if_neg (fun q => absurd (hiff.mpr q) Bool.false_ne_true)] at hR
            have hri := rcLt_int A.in1 ⟨hp, g, d, tk, os⟩ a t c u prog w
            wp_walk using hri
            exact ⟨_, rfl, by simpa using hR⟩
    case fin =>
      rintro ⟨b1, b2⟩ s' ⟨hb', rfl, vs, ws, ns', ms', hz, hvi, hwi, hlen, hR⟩
      simp only at hb'
      subst hb'
      have hv : lexLt ns' ms' = decide (items.size < items2.size) := by
        cases hvi with
        | nil =>
          cases hwi with
          | nil =>
            simp only [List.length_nil] at hlen
            rw [lexLt_nil_nil]
            exact (decide_eq_false (by omega)).symm
          | cons c u hw =>
            simp only [List.length_nil, List.length_cons] at hlen
            rw [lexLt_nil_cons]
            exact (decide_eq_true (by omega)).symm
        | cons a t hv =>
          cases hwi with
          | nil =>
            simp only [List.length_nil, List.length_cons] at hlen
            rw [lexLt_cons_nil]
            exact (decide_eq_false (by omega)).symm
          | cons c u hw =>
            rw [List.zip_cons_cons] at hz
            cases hz
      rw [hv] at hR
      wp_walk
      exact ⟨_, rfl, by simpa [Builtin.Tuple.tupleCompareSizes] using hR⟩
    case h =>
      exact ⟨rfl, rfl, items.toList, items2.toList, ns, ms, rfl, hi, hj, by omega, h⟩
end

section
variable {prog : Program} {w : World} {A : Around} {E : Value → Shared → Prop} {s : Shared}

theorem lt_tupInts {l b : Addr} {items items2 : Array Value} {ns ms : List Int} {Q : Value → Shared → Prop} (hl : IsTup s.heap l items) (hb : IsTup s.heap b items2) (hi : IntsAre items.toList ns) (hj : IntsAre items2.toList ms)
    (hu : A.units < cLine) (h : Q (.bool (lexLt ns ms)) s) : wpAny (model prog w) A (compareOp .Lt (.ref l) (.ref b)) Q E s := by
  obtain ⟨⟨cls, dd, data, sl⟩, ho, hc, n, hd⟩ := id hl
  obtain ⟨⟨cls2, dd2, data2, sl2⟩, ho2, hc2, n2, hd2⟩ := id hb
  simp only at hc hd hc2 hd2
  subst hc hd hc2 hd2
  exact richCompare_meets_room (op := .Lt) ⟨_, ho, rfl⟩ ⟨_, ho2, rfl⟩ PySem.F.slot_tuple_lt PySem.F.entry_tuple_lt (PySem.F.args_tuple_lt_2 _ _) (tuple_lt_ints l b items items2 n n2 dd dd2 sl sl2 ns ms hi hj)
    ⟨ho, ho2, show Value.bool (lexLt ns ms) ≠ Value.notImplemented ∧ Q (.bool (lexLt ns ms)) s from ⟨(fun x => nomatch x), h⟩⟩ hu

/-- t + u, t not empty -/
theorem cat_tup {t b : Addr} {vs ws : List Value} {Q : Value → Shared → Prop} (ht : IsTup s.heap t vs.toArray) (hb : IsTup s.heap b ws.toArray) (hv : vs ≠ [])
    (h1 : ws = [] → Q (.ref t) s) (h2 : ws ≠ [] → Q (.ref s.heap.objs.size) { s with heap := s.heap.push { cls := .type "tuple", data := .seq (vs ++ ws).toArray } })
    (hsz : vs.length + ws.length ≤ sizeLine) : wpAny (model prog w) A (binaryOp .Add (.ref t) (.ref b)) Q E s := by
  obtain ⟨⟨cls, dd, data, sl⟩, ho, hc, n, hd⟩ := id ht
  obtain ⟨⟨cls2, dd2, data2, sl2⟩, ho2, hc2, n2, hd2⟩ := id hb
  simp only at hc hd hc2 hd2
  subst hc hd hc2 hd2
  have e : vs.toArray ++ ws.toArray = (vs ++ ws).toArray := by simp
  by_cases hw : ws = []
  · exact concat_meets ⟨_, ho, rfl⟩ ⟨_, ho2, rfl⟩ noFill_tuple_add seq_tuple_add PySem.F.slot_tuple_add PySem.F.entry_tuple_add (PySem.F.args_tuple_add_2 _ _)
      (tuple_addW1 t b vs.toArray ws.toArray n n2 dd dd2 sl sl2 (by simpa using hv) (by simp [hw])) ⟨ho, ho2, h1 hw⟩
  · refine concat_meets ⟨_, ho, rfl⟩ ⟨_, ho2, rfl⟩ noFill_tuple_add seq_tuple_add PySem.F.slot_tuple_add PySem.F.entry_tuple_add (PySem.F.args_tuple_add_2 _ _)
      (tuple_addW2 t b vs.toArray ws.toArray n n2 dd dd2 sl sl2 (by simpa using hv) (by simpa using hw) (by rw [List.size_toArray, List.size_toArray]; exact hsz)) ⟨ho, ho2, ?_⟩
    rw [e]
    exact h2 hw

/-! ### t[a:b], not the whole -/
/-- a slice's bound as a place among n (d where it is left out) -/
def sIx (n d : Nat) : Option Int → Nat
  | none => d
  | some v => if v < 0 then (v + (n : Int)).toNat else min v.toNat n
theorem sIx_none (n d : Nat) : sIx n d none = d := rfl
theorem sIx_nat (n d k : Nat) : sIx n d (some (k : Int)) = min k n := by
  show (if (k : Int) < 0 then ((k : Int) + (n : Int)).toNat else min (k : Int).toNat n) = min k n
  rw [if_neg (by omega), Int.toNat_natCast]
theorem sIx_le (n d : Nat) (hd : d ≤ n) (o : Option Int) : sIx n d o ≤ n := by
  cases o with
  | none => exact hd
  | some v =>
    show (if v < 0 then (v + (n : Int)).toNat else min v.toNat n) ≤ n
    by_cases hv : v < 0
    · rw [if_pos hv]; omega
    · rw [if_neg hv]; exact Nat.min_le_right _ _
theorem clip_eq (v : Int) (n d : Nat) : (if v < 0 then max (v + (n : Int)) 0 else min v (n : Int)) = ((sIx n d (some v) : Nat) : Int) := by
  show (if v < 0 then max (v + (n : Int)) 0 else min v (n : Int)) = (((if v < 0 then (v + (n : Int)).toNat else min v.toNat n) : Nat) : Int)
  by_cases hv : v < 0
  · simp only [if_pos hv]; omega
  · simp only [if_neg hv]; omega
theorem adjust_gen (lo hi : Option Int) (n : Nat) : Builtin.Slice.sliceAdjust lo hi 1 (n : Int) = (((sIx n 0 lo : Nat) : Int), ((sIx n n hi : Nat) : Int)) := by
  have h1 : ¬ ((1 : Int) < 0) := by omega
  unfold Builtin.Slice.sliceAdjust
  simp only [h1, if_false]
  refine Prod.ext ?_ ?_
  · cases lo with
    | none => rfl
    | some v => exact clip_eq v n 0
  · cases hi with
    | none => rfl
    | some v => exact clip_eq v n n
theorem places_gen (i j : Nat) : Builtin.Slice.slicePlaces (i : Int) (j : Int) 1 = j - i := by
  unfold Builtin.Slice.slicePlaces
  have h1 : (1 : Int) > 0 := by omega
  simp only [h1, if_true, Int.ediv_one]
  split <;> omega
theorem slicePart_ {v : Value} {o : Option Int} {Q : Option Int → Shared → Prop} (p : IsPart v o) (h : Q o s) : wpAny (model prog w) A (Builtin.Slice.slicePartIndex v) Q E s := by
  cases p with
  | none => exact slicePart_none h
  | int i t => exact slicePart_int h
theorem sliceApplied_gen {sl : Addr} {vl vu : Value} {lo hi : Option Int} {n : Nat} {Q : Int × Int × Nat → Shared → Prop} (hs : s.heap.IsSliceOf sl vl vu .none) (pl : IsPart vl lo) (pu : IsPart vu hi)
    (h : Q (((sIx n 0 lo : Nat) : Int), 1, sIx n n hi - sIx n 0 lo) s) : wpAny (model prog w) A (Builtin.Slice.sliceApplied (.ref sl) (pure (n : Int))) Q E s := by
  obtain ⟨os, hos, hcs, hds⟩ := id hs
  unfold Builtin.Slice.sliceApplied Builtin.Slice.sliceFields
  refine wpAny_bind (wpAny_bind (wpAny_field hos hds (x := vl) rfl (wpAny_bind (wpAny_field hos hds (x := vu) rfl (wpAny_bind (wpAny_field hos hds (x := .none) rfl (wpAny_pure ?_)))))))
  refine wpAny_bind (slicePart_none ?_)
  show wpAny _ _ (if ((1 : Int) == 0) = true then _ else _) _ _ s
  rw [if_neg (by decide)]
  refine wpAny_bind (slicePart_ pl (wpAny_bind (slicePart_ pu (wpAny_bind (wpAny_pure ?_)))))
  show wpAny _ _ (match Builtin.Slice.sliceAdjust lo hi 1 (n : Int) with | (lo, hi) => pure (lo, (1 : Int), Builtin.Slice.slicePlaces lo hi 1)) _ _ s
  rw [adjust_gen lo hi n]
  show wpAny _ _ (pure (((sIx n 0 lo : Nat) : Int), (1 : Int), Builtin.Slice.slicePlaces ((sIx n 0 lo : Nat) : Int) ((sIx n n hi : Nat) : Int) 1)) _ _ s
  rw [places_gen]
  exact wpAny_pure h
theorem pick_gen (xs : Array Value) (i k : Nat) : ((List.range k).filterMap fun (m : Nat) => xs[((i : Int) + (m : Int) * 1).toNat]?).toArray = ((xs.toList.drop i).take k).toArray := by
  have e : (fun (m : Nat) => xs[((i : Int) + (m : Int) * 1).toNat]?) = fun m => xs[i + m]? := by
    funext m
    have : ((i : Int) + (m : Int) * 1).toNat = i + m := by omega
    rw [this]
  rw [e]
  have := pick_run xs i k
  rw [List.filterMap_map] at this
  have e2 : ((fun x => xs[x]?) ∘ fun x => i + x) = fun m => xs[i + m]? := rfl
  rw [e2] at this
  rw [this]

theorem getItem_tuple_cut {t sl : Addr} {items : Array Value} {vl vu : Value} {lo hi : Option Int} {Q : Value → Shared → Prop} (ht : IsTup s.heap t items) (hs : s.heap.IsSliceOf sl vl vu .none) (pl : IsPart vl lo) (pu : IsPart vu hi)
    (hw : ¬ (sIx items.size 0 lo = 0 ∧ sIx items.size items.size hi = items.size))
    (h : Q (.ref s.heap.objs.size) { s with heap := s.heap.push { cls := .type "tuple", data := .seq ((items.toList.drop (sIx items.size 0 lo)).take (sIx items.size items.size hi - sIx items.size 0 lo)).toArray } })
    (hsz : items.size ≤ sizeLine) : wpAny (model prog w) A (getItem (.ref t) (.ref sl)) Q E s := by
  have htake : sizeOk (.seq ((items.toList.drop (sIx items.size 0 lo)).take (sIx items.size items.size hi - sIx items.size 0 lo)).toArray) := by
    show ((items.toList.drop (sIx items.size 0 lo)).take (sIx items.size items.size hi - sIx items.size 0 lo)).toArray.size ≤ sizeLine
    rw [List.size_toArray, List.length_take, List.length_drop, Array.length_toList]
    omega
  have hj : sIx items.size items.size hi ≤ items.size := sIx_le _ _ (Nat.le_refl _) hi
  obtain ⟨os, hos, hcs, hds⟩ := id hs
  have hTs : s.TypeIs (.ref sl) "slice" := ⟨os, hos, hcs⟩
  unfold getItem
  try with_reducible refine wpAny_holding ?_
  first | refine wpAny_bind (wpAny_pure ?_) | skip
  refine wpAny_bind (wpAny_sequenceKey ht.typeIs (by decide) ?_)
  refine wpAny_bind (wpAny_callSpecial?_slot (name := Str.ofString "__getitem__") ht.typeIs PyProof.Rows.slot_tuple_getitem
    (wpAny_call_entry PyProof.Rows.slot_tuple_getitem ht.typeIs entry_tuple_getitem ?_ (args_tuple_getitem _ _)))
  show wpAny _ _ (Builtin.Tuple.tupleItemsOf (.ref t) >>= _) _ _ s
  refine wpAny_bind (tupleItemsOf_ ht ?_)
  refine wpAny_bind (wpAny_typeOf hTs ?_)
  rw [if_pos (by decide)]
  refine wpAny_bind (sliceApplied_gen hs pl pu ?_)
  have hno : ¬ ((((sIx items.size 0 lo : Nat) : Int) == 0 && (1 : Int) == 1 && (sIx items.size items.size hi - sIx items.size 0 lo) == items.size) = true) := by
    intro q
    rw [Bool.and_eq_true, Bool.and_eq_true] at q
    have q1 : ((sIx items.size 0 lo : Nat) : Int) = 0 := eq_of_beq q.1.1
    have q2 : sIx items.size items.size hi - sIx items.size 0 lo = items.size := eq_of_beq q.2
    exact hw ⟨by omega, by omega⟩
  show wpAny _ _ (if (((sIx items.size 0 lo : Nat) : Int) == 0 && (1 : Int) == 1 && (sIx items.size items.size hi - sIx items.size 0 lo) == items.size) = true then _ else _) _ _ s
  rw [if_neg hno, pick_gen]
  first
    | exact wpAny_bind (m := Builtin.Tuple.tupleExact _) (wpAny_newObj_type (wpAny_pure ⟨_, rfl, wpAny_pure h⟩) htake)
    | exact wpAny_bind (m := Builtin.Tuple.tupleExact _) (wpAny_newObj_type (wpAny_bind (wpAny_pure (wpAny_pure ⟨_, rfl, wpAny_pure h⟩))) htake)
    | exact wpAny_bind (wpAny_bind (m := Builtin.Tuple.tupleExact _) (wpAny_newObj_type (wpAny_pure (wpAny_pure ⟨_, rfl, wpAny_pure h⟩)) htake))
    | exact wpAny_bind (wpAny_bind (m := Builtin.Tuple.tupleExact _) (wpAny_newObj_type (wpAny_pure ⟨_, rfl, wpAny_pure h⟩) htake))
end
end HT

namespace L2
open PySem PySem.Spec PyProof.Rows

/-! ### the parts of a slice -/
abbrev TO := St → Hp → (Option Int → Hp → Prop) → Prop
/-- a slice's part (left out, or an int) -/
def PO (X : Cx) (e : Option Expr) (t : TO) : Prop :=
  ∀ (pins : List (Addr × Obj)) (s : Shared) (σ : St) (H : Hp) (Q : Option Int → Hp → Prop), Inv X pins σ H s → t σ H Q →
    wpAny (model X.prog X.w) X.A (evalPart e X.env) (fun u s' => ∃ o H', Inv X pins σ H' s' ∧ IsPart u o ∧ Q o H') X.xe s
def tNoPart : TO := fun _ H Q => Q none H
def tPart (t : TE) : TO := fun σ H Q => t σ H fun x H1 => ∃ i, x = .int i ∧ Q (some i) H1

theorem intsAre_of {ns : List Int} : ∀ {us : List Value}, Vals (ns.map V.int) us → IntsAre us ns := by
  induction ns with
  | nil => intro us r; rw [List.map_nil] at r; cases r; exact .nil
  | cons n ns ih =>
    intro us r
    rw [List.map_cons] at r
    cases r with
    | cons r1 r2 =>
      obtain ⟨t, e⟩ := r1
      subst e
      exact .cons n t (ih r2)

section
variable {X : Cx} {e : Expr} {te : TE} {lo hi : Option Expr} {tl th : TO} {pos p2 : Pos}

theorem po_none : PO X none tNoPart := by
  intro pins s σ H Q I h
  rw [evalPart_none]
  exact wpAny_pure ⟨none, H, I, .none, h⟩
theorem po_some (h : PE X e te) : PO X (some e) (tPart te) := by
  intro pins s σ H Q I hw
  rw [evalPart_some]
  refine thn (h pins s σ H _ I hw) fun u s1 ⟨x, H1, I1, r1, q1⟩ => ?_
  obtain ⟨i, rfl, q⟩ := q1
  obtain ⟨t, rfl⟩ := r1
  exact ⟨some i, H1, I1, .int i t, q⟩

/-- what a slice of a value is, by values: the slice object stands at sl -/
def SlR (X : Cx) (r : V → Option Int → Option Int → Hp → VK → Prop) : Prop :=
  ∀ (pins : List (Addr × Obj)) (s : Shared) (σ : St) (H : Hp) (x : V) (v vl vu : Value) (lo hi : Option Int) (sl : Addr) (Q : VK), Inv X pins σ H s → RelV x v → s.heap.IsSliceOf sl vl vu .none → IsPart vl lo → IsPart vu hi → r x lo hi H Q →
    ∃ T id, typeLookup (.type T) "__getitem__" = pure (some (.builtin id)) ∧ s.TypeIs v T ∧ wpAny (model X.prog X.w) X.A (getItem v (.ref sl)) (EP X pins σ Q) X.xe s
theorem SlR.or {r r' : V → Option Int → Option Int → Hp → VK → Prop} (h : SlR X r) (h' : SlR X r') : SlR X (fun x lo hi H Q => r x lo hi H Q ∨ r' x lo hi H Q) := by
  intro pins s σ H x v vl vu lo hi sl Q I rx hs pl pu q
  rcases q with q | q
  · exact h pins s σ H x v vl vu lo hi sl Q I rx hs pl pu q
  · exact h' pins s σ H x v vl vu lo hi sl Q I rx hs pl pu q
def tSl (r : V → Option Int → Option Int → Hp → VK → Prop) (te : TE) (tl th : TO) : TE := fun σ H Q => te σ H fun x H1 => tl σ H1 fun l H2 => th σ H2 fun u H3 => r x l u H3 Q
/-- a[lo:hi], any a -/
theorem pe_slice {r : V → Option Int → Option Int → Hp → VK → Prop} (hr : SlR X r) (he : PE X e te) (hl : PO X lo tl) (hu : PO X hi th) : PE X (.Subscript e (.Slice lo hi none p2) pos) (tSl r te tl th) := by
  intro pins s σ H Q I h
  refine Subscript_ (thn (he pins s σ H _ I h) fun v s1 ⟨x, H1, I1, r1, q1⟩ => ?_)
  refine wpAny_Slice (thn (hl pins s1 σ H1 _ I1 q1) fun vl s2 ⟨l, H2, I2, pl, q2⟩ => thn (hu pins s2 σ H2 _ I2 q2) fun vu s3 ⟨u, H3, I3, pu, q3⟩ => ?_)
  rw [evalPart_none]
  refine wpAny_pure ?_
  have I4 : Inv X pins σ H3 { s3 with heap := s3.heap.push { cls := .type "slice", data := .fields #[vl, vu, .none] } } := I3.kept (t' := s3.toks) fun b ob q => Heap.get?_push_of_some _ q
  obtain ⟨T, id, hT, ht, hg⟩ := hr pins { s3 with heap := s3.heap.push { cls := .type "slice", data := .fields #[vl, vu, .none] } } σ H3 x v vl vu l u s3.heap.objs.size Q I4 r1 (Heap.IsSliceOf.new ..) pl pu q3
  show wpAny (model X.prog X.w) X.A (subscriptTail e (.Slice lo hi none p2) v (.ref s3.heap.objs.size)) (EP X pins σ Q) X.xe { s3 with heap := s3.heap.push { cls := .type "slice", data := .fields #[vl, vu, .none] } }
  exact tail_any (ops := [.ref s3.heap.objs.size, v]) ht hT hg (by with_unfolding_all rfl)

/-- the items of xs[lo:hi] -/
def cutV (xs : List V) (lo hi : Option Int) : List V := (xs.drop (HT.sIx xs.length 0 lo)).take (HT.sIx xs.length xs.length hi - HT.sIx xs.length 0 lo)
theorem cutV_length (xs : List V) (lo hi : Option Int) : (cutV xs lo hi).length ≤ xs.length := by
  unfold cutV
  rw [List.length_take, List.length_drop]
  omega
/-- t[lo:hi], not the whole of it (the whole would be t itself) -/
def rSlT (K : PySem.W.Frag) : V → Option Int → Option Int → Hp → VK → Prop := fun x lo hi H Q => ∃ a xs, x = .ref a ∧ SqT K H a xs ∧
  ¬ (HT.sIx xs.length 0 lo = 0 ∧ HT.sIx xs.length xs.length hi = xs.length) ∧ ∀ p, H p = none → Q (.ref p) (upd H p (.tup (cutV xs lo hi)))
theorem sl_tup : SlR X (rSlT X.K) := by
  intro pins s σ H x v vl vu lo hi sl Q I rx hs pl pu h
  obtain ⟨a, xs, rfl, hx, hw, q⟩ := h
  cases rx
  obtain ⟨its, r, ht, hz⟩ := I.tuple hx
  have hlen : its.toArray.size = xs.length := by rw [List.size_toArray]; exact r.length.symm
  refine ⟨"tuple", _, PyProof.Rows.slot_tuple_getitem.lookup, ht.typeIs, ?_⟩
  refine HT.getItem_tuple_cut ht hs pl pu (by rw [hlen]; exact hw) ?_ (by rw [hlen]; exact hz)
  rw [hlen]
  refine ⟨.ref s.heap.objs.size, _, I.laid (t' := s.toks) (o := .tup (cutV xs lo hi)) (fun b ob q => Heap.get?_push_of_some _ q) (Nat.le_refl _) ?_, rfl, q _ (I.hok.fresh (Nat.le_refl _))⟩
  exact ⟨Nat.le_trans (cutV_length xs lo hi) hz, _, (r.drop (HT.sIx xs.length 0 lo)).take (HT.sIx xs.length xs.length hi - HT.sIx xs.length 0 lo), IsTup.new _ _⟩

/-! ### t < u, t + u -/
def rLtT (K : PySem.W.Frag) : R2 := fun x y H Q => ∃ a b ns ms, x = .ref a ∧ y = .ref b ∧ SqT K H a (ns.map V.int) ∧ SqT K H b (ms.map V.int) ∧ Q (.bl (HT.lexLt ns ms)) H
theorem op_ltT (hu : X.A.units < cLine) : OpR X (compareOp .Lt) (rLtT X.K) := by
  intro pins s σ H x y v u Q I rx ry h
  obtain ⟨a, b, ns, ms, rfl, rfl, ha, hb, q⟩ := h
  cases rx
  cases ry
  obtain ⟨its, r1, p1, _⟩ := I.tuple ha
  obtain ⟨its2, r2, p2, _⟩ := I.tuple hb
  have i1 : IntsAre its.toArray.toList ns := intsAre_of r1
  have i2 : IntsAre its2.toArray.toList ms := intsAre_of r2
  exact HT.lt_tupInts p1 p2 i1 i2 hu ⟨.bl (HT.lexLt ns ms), H, I, rfl, q⟩
/-- t + u, t not empty: u empty gives t itself -/
def rCatT (K : PySem.W.Frag) : R2 := fun x y H Q => ∃ a b xs ys, x = .ref a ∧ y = .ref b ∧ SqT K H a xs ∧ SqT K H b ys ∧ xs ≠ [] ∧ xs.length + ys.length ≤ sizeLine ∧
  (ys = [] → Q (.ref a) H) ∧ (ys ≠ [] → ∀ p, H p = none → Q (.ref p) (upd H p (.tup (xs ++ ys))))
theorem Vals.nil_iff {xs : List V} {us : List Value} (r : Vals xs us) : us = [] ↔ xs = [] := by
  cases r with
  | nil => simp
  | cons _ _ => simp
theorem op_catT : OpR X (binaryOp .Add) (rCatT X.K) := by
  intro pins s σ H x y v u Q I rx ry h
  obtain ⟨a, b, xs, ys, rfl, rfl, ha, hb, hx, hz, q1, q2⟩ := h
  cases rx
  cases ry
  obtain ⟨its, r1, p1, _⟩ := I.tuple ha
  obtain ⟨its2, r2, p2, _⟩ := I.tuple hb
  refine HT.cat_tup p1 p2 (fun z => hx (r1.nil_iff.mp z)) (fun z => ⟨.ref a, H, I, rfl, q1 (r2.nil_iff.mp z)⟩) (fun z => ?_) (by rw [← r1.length, ← r2.length]; exact hz)
  refine ⟨.ref s.heap.objs.size, _, I.laid (t' := s.toks) (o := .tup (xs ++ ys)) (fun b ob q => Heap.get?_push_of_some _ q) (Nat.le_refl _) ?_, rfl, q2 (fun w => z (r2.nil_iff.mpr w)) _ (I.hok.fresh (Nat.le_refl _))⟩
  exact ⟨by rw [List.length_append]; exact hz, _, r1.append r2, IsTup.new _ _⟩
/-- tuple(t) -/
theorem call_tupleT : CallR X (.type "tuple") (fun xs H Q => ∃ a ys, xs = [.ref a] ∧ SqT X.K H a ys ∧ Q (.ref a) H) := by
  intro pins s σ H xs us Q I r h
  obtain ⟨a, ys, rfl, ha, q⟩ := h
  obtain ⟨u, rfl, ru⟩ := vals1 r
  cases ru
  obtain ⟨its, _, p1, _⟩ := I.tuple ha
  exact call_tuple_same (items := its.toArray) p1 ⟨.ref a, H, I, rfl, q⟩
end
end L2

namespace L2
open PySem PySem.Spec PyProof.Rows

/-! ### places -/
/-- the place that an index of any sign means -/
def ixN (n : Nat) (i : Int) : Option Nat := if 0 ≤ i then (if i < n then some i.toNat else none) else if -(n : Int) ≤ i then some (i + n).toNat else none
def atI {α : Type} (xs : List α) (i : Int) : Option α := (ixN xs.length i).bind fun j => xs[j]?
theorem ixN_seq {n : Nat} {i : Int} {j : Nat} (h : ixN n i = some j) : seqIndex? i n = some j ∧ j < n ∧ -(n : Int) ≤ i ∧ i < n := by
  unfold ixN at h
  by_cases h0 : 0 ≤ i
  · rw [if_pos h0] at h
    by_cases h1 : i < n
    · rw [if_pos h1] at h
      have e : i.toNat = j := Option.some.inj h
      exact ⟨by rw [seqIndex_of h0 h1, e], by omega, by omega, h1⟩
    · rw [if_neg h1] at h; cases h
  · rw [if_neg h0] at h
    by_cases h1 : -(n : Int) ≤ i
    · rw [if_pos h1] at h
      have e : (i + n).toNat = j := Option.some.inj h
      exact ⟨by rw [seqIndex_neg (by omega) h1, e], by omega, h1, by omega⟩
    · rw [if_neg h1] at h; cases h
theorem atI_get {α : Type} {xs : List α} {i : Int} {v : α} (h : atI xs i = some v) : ∃ j, seqIndex? i xs.length = some j ∧ xs[j]? = some v ∧ j < xs.length ∧ -(xs.length : Int) ≤ i ∧ i < xs.length := by
  unfold atI at h
  cases e : ixN xs.length i with
  | none => rw [e] at h; cases h
  | some j =>
    rw [e] at h
    obtain ⟨h1, h2, h3, h4⟩ := ixN_seq e
    exact ⟨j, h1, h, h2, h3, h4⟩
theorem atI_nat {α : Type} {xs : List α} {j : Nat} {v : α} (h : xs[j]? = some v) : atI xs (j : Int) = some v := by
  have hj : j < xs.length := (List.getElem?_eq_some_iff.mp h).1
  have e : ixN xs.length (j : Int) = some j := by
    unfold ixN
    rw [if_pos (by omega), if_pos (by omega)]; simp
  unfold atI; rw [e]; exact h
theorem atI_last {α : Type} (xs : List α) (v : α) : atI (xs ++ [v]) (-1) = some v := by
  have hl : (xs ++ [v]).length = xs.length + 1 := by simp
  have e : ixN (xs ++ [v]).length (-1) = some xs.length := by
    unfold ixN
    rw [hl, if_neg (by decide), if_pos (by omega)]
    congr 1
    omega
  unfold atI
  rw [e]
  show (xs ++ [v])[xs.length]? = some v
  simp

/-! ### what may be subscripted -/
/-- what stands as an index of a plain subscript -/
def PlainIx (b : Expr) : Prop := ∀ o i, subscripted b false o i = operate [o, i] (getItem o i)
/-- a subscript by values -/
def IxR (X : Cx) (r : R2) : Prop :=
  ∀ (value slice : Expr) (pins : List (Addr × Obj)) (s : Shared) (σ : St) (H : Hp) (x y : V) (v u : Value) (Q : VK), Inv X pins σ H s → RelV x v → RelV y u → r x y H Q →
    subscripted slice false v u = operate [v, u] (getItem v u) → wpAny (model X.prog X.w) X.A (subscriptTail value slice v u) (EP X pins σ Q) X.xe s
/-- a call of a builtin's method by values: the receiver, the arguments -/
def MtR (X : Cx) (id : String) (r : V → List V → Hp → VK → Prop) : Prop :=
  ∀ (pins : List (Addr × Obj)) (s : Shared) (σ : St) (H : Hp) (x : V) (xs : List V) (v : Value) (us : List Value) (Q : VK), Inv X pins σ H s → RelV x v → Vals xs us → r x xs H Q →
    wpAny (model X.prog X.w) X.A (call (.builtin id) (v :: us)) (EP X pins σ Q) X.xe s
section
variable {X : Cx} {a b : Expr} {ta tb : TE} {pos : Pos}
theorem IxR.or {r r' : R2} (h : IxR X r) (h' : IxR X r') : IxR X (fun x y H Q => r x y H Q ∨ r' x y H Q) := by
  intro value slice pins s σ H x y v u Q I rx ry q hs
  rcases q with q | q
  · exact h value slice pins s σ H x y v u Q I rx ry q hs
  · exact h' value slice pins s σ H x y v u Q I rx ry q hs
theorem MtR.or {id : String} {r r' : V → List V → Hp → VK → Prop} (h : MtR X id r) (h' : MtR X id r') : MtR X id (fun x xs H Q => r x xs H Q ∨ r' x xs H Q) := by
  intro pins s σ H x xs v us Q I rx rs q
  rcases q with q | q
  · exact h pins s σ H x xs v us Q I rx rs q
  · exact h' pins s σ H x xs v us Q I rx rs q
/-- a[b] -/
theorem pe_ix {r : R2} (hr : IxR X r) (ha : PE X a ta) (hb : PE X b tb) (hs : PlainIx b) : PE X (.Subscript a b pos) (tOp r ta tb) := by
  intro pins s σ H Q I h
  exact Subscript_ (binT ha hb I h fun v u s2 x y H2 I2 rx ry q => hr a b pins s2 σ H2 x y v u Q I2 rx ry q (hs _ _))

def rIxL (K : PySem.W.Frag) : R2 := fun x y H Q => ∃ p xs i v, x = .ref p ∧ y = .int i ∧ SqL K H p xs ∧ atI xs i = some v ∧ Q v H
def rIxT (K : PySem.W.Frag) : R2 := fun x y H Q => ∃ p xs i v, x = .ref p ∧ y = .int i ∧ SqT K H p xs ∧ atI xs i = some v ∧ Q v H
def rIxS : R2 := fun x y H Q => ∃ z i c, x = .str z ∧ y = .int i ∧ z.length ≤ sizeLine ∧ atI z.cps.toList i = some c ∧ Q (.str ⟨#[c]⟩) H
theorem ix_list : IxR X (rIxL X.K) := by
  intro value slice pins s σ H x y v u Q I rx ry h hs
  obtain ⟨p, xs, i, z, rfl, rfl, hq, he, q⟩ := h
  cases rx
  obtain ⟨t, rfl⟩ := ry
  obtain ⟨its, r, pl, hz⟩ := I.list hq
  obtain ⟨j, h1, h2, h3, h4, h5⟩ := atI_get he
  obtain ⟨w, ew, rw'⟩ := r.get h2
  have hl := r.length
  have hn := line63
  have fin : EP X pins σ Q w s := ⟨z, H, I, rw', q⟩
  by_cases h0 : 0 ≤ i
  · have hj : i.toNat = j := by
      rw [seqIndex_of h0 h5] at h1
      exact Option.some.inj h1
    exact item_listR pl.isList h0 (by omega) (by rw [hj]; simpa using ew) fin hs
  · have hj : (i + (its.toArray.size : Int)).toNat = j := by
      rw [seqIndex_neg (by omega) h4] at h1
      rw [List.size_toArray, ← hl]
      exact Option.some.inj h1
    exact subscriptTail_builtinR (x := w) pl.isList.typeIs slot_list_getitem.lookup
      (wpAny_getItem_list_neg (Q := fun r s' => r = w ∧ EP X pins σ Q r s') pl.isList (by omega) (by rw [List.size_toArray] <;> omega) (by omega) (by rw [hj]; simpa using ew) ⟨rfl, fin⟩) hs
theorem ix_tup : IxR X (rIxT X.K) := by
  intro value slice pins s σ H x y v u Q I rx ry h hs
  obtain ⟨p, xs, i, z, rfl, rfl, hq, he, q⟩ := h
  cases rx
  obtain ⟨t, rfl⟩ := ry
  obtain ⟨its, r, pl, hz⟩ := I.tuple hq
  obtain ⟨j, h1, h2, h3, h4, h5⟩ := atI_get he
  obtain ⟨w, ew, rw'⟩ := r.get h2
  have hl := r.length
  have hn := line63
  have fin : EP X pins σ Q w s := ⟨z, H, I, rw', q⟩
  exact subscriptTail_builtinR (x := w) pl.typeIs slot_tuple_getitem.lookup
    (getItem_tuple (j := j) (Q := fun r s' => r = w ∧ EP X pins σ Q r s') pl (by omega) (by omega) (by rw [List.size_toArray, ← hl]; exact h1) (by simpa using ew) ⟨rfl, fin⟩) hs
theorem ix_str : IxR X rIxS := by
  intro value slice pins s σ H x y v u Q I rx ry h hs
  obtain ⟨z, i, c, rfl, rfl, hz, he, q⟩ := h
  obtain ⟨t, rfl⟩ := rx
  obtain ⟨t', rfl⟩ := ry
  obtain ⟨j, h1, h2, h3, h4, h5⟩ := atI_get he
  have hl : z.cps.toList.length = z.length := by simp [Str.length]
  rw [hl] at h1 h4 h5
  have hn := line63
  exact tail_any (typeIs_str s z t) slot_str_getitem.lookup (getItem_str (c := c) (by
    have e1 : decide (i < -(2 ^ 63 : Int)) = false := decide_eq_false (by omega)
    have e2 : decide (i ≥ 2 ^ 63) = false := decide_eq_false (by omega)
    rw [e1, e2, Bool.or_false]) (by rw [h1]; simpa using h2) ⟨.str ⟨#[c]⟩, H, I.tok _, ⟨_, rfl⟩, q⟩) hs
/-- list, tuple or str -/
def rIx (K : PySem.W.Frag) : R2 := fun x y H Q => rIxL K x y H Q ∨ rIxT K x y H Q ∨ rIxS x y H Q
theorem ix_seq : IxR X (rIx X.K) := ix_list.or (ix_tup.or ix_str)

/-! ### xs[i] = v, any sign -/
/-- the list's object behind a store -/
theorem mapSeq_set (its : List Value) (n j : Nat) (u : Value) : Obj.mapSeq (·.setIfInBounds j u) { cls := .type "list", data := .seq its.toArray n } = { cls := .type "list", data := .seq (its.set j u).toArray n } := by
  simp [Obj.mapSeq]
theorem Inv.lst {pins : List (Addr × Obj)} {σ : St} {H : Hp} {s : Shared} {p : Addr} {xs : List V} (I : Inv X pins σ H s) (h : H p = some (.lst xs)) :
    ∃ (its : List Value) (n : Nat), Vals xs its ∧ s.heap.get? p = some { cls := .type "list", data := .seq its.toArray n } ∧ xs.length ≤ sizeLine := by
  obtain ⟨z, its, n, r, e⟩ := I.hok p _ h
  exact ⟨its, n, r, e, z⟩
/-- the list at p is written by an update of its object -/
theorem Inv.lstUpd {pins : List (Addr × Obj)} {σ : St} {H : Hp} {s : Shared} {p : Addr} {xs ys : List V} {its its' : List Value} {n n' : Nat} {f : Obj → Obj} (I : Inv X pins σ H s) (h : H p = some (.lst xs))
    (ho : s.heap.get? p = some { cls := .type "list", data := .seq its.toArray n }) (hf : f { cls := .type "list", data := .seq its.toArray n } = { cls := .type "list", data := .seq its'.toArray n' }) (r : Vals ys its') (hz : ys.length ≤ sizeLine) (t : Nat) :
    Inv X pins σ (upd H p (.lst ys)) { s with heap := s.heap.update p f, toks := t } := by
  have e : (s.heap.update p f).get? p = some { cls := .type "list", data := .seq its'.toArray n' } := by
    rw [Heap.get?_update_self f ho (by rw [hf] <;> rfl), hf]
  refine I.write (x := p) (e := p) (by rw [h]; trivial) (.inl rfl) (fun b u hb q => (Heap.get?_update_other _ _ (Ne.symm hb)).trans q) ⟨_, e⟩ ?_
  exact ⟨hz, its', n', r, e⟩
def rSetL : V → V → V → Hp → (Hp → Prop) → Prop := fun o i v H Q => ∃ p xs k j, o = .ref p ∧ i = .int k ∧ H p = some (.lst xs) ∧ ixN xs.length k = some j ∧ Q (upd H p (.lst (xs.set j v)))
theorem set_list : PSet X rSetL := by
  intro pins s σ H o i v ov iv u Q I ro ri rv h
  obtain ⟨p, xs, k, j, rfl, rfl, hp, hj, q⟩ := h
  cases ro
  obtain ⟨t, rfl⟩ := ri
  obtain ⟨its, n, r, ho, hz⟩ := I.lst hp
  obtain ⟨h1, h2, h3, h4⟩ := ixN_seq hj
  have hl := r.length
  have hn := line63
  have I' : Inv X pins σ (upd H p (.lst (xs.set j v))) { s with heap := s.heap.update p (Obj.mapSeq (·.setIfInBounds j u)) } :=
    I.lstUpd hp ho (mapSeq_set its n j u) (r.set rv j) (by rw [List.length_set]; exact hz) s.toks
  by_cases h0 : 0 ≤ k
  · have hk : k.toNat = j := by
      rw [seqIndex_of h0 h4] at h1
      exact Option.some.inj h1
    exact PySem.W.ki_setAt ho h0 (by omega) (by rw [List.size_toArray, ← hl]; exact h4) (by rw [hk]; exact ⟨_, I', q⟩)
  · have hk : (k + (its.toArray.size : Int)).toNat = j := by
      rw [seqIndex_neg (by omega) h3] at h1
      rw [List.size_toArray, ← hl]
      exact Option.some.inj h1
    exact PySem.W.ki_setBack ho (by omega) (by rw [List.size_toArray, ← hl]; exact h3) (by omega) (by rw [hk]; exact ⟨_, I', q⟩)

/-! ### slices -/
theorem slice_bounds (lo hi : Option Int) (n : Nat) : (sliceBounds lo hi none n).1 = ((HT.sIx n 0 lo : Nat) : Int) ∧ (sliceBounds lo hi none n).2.1 = ((HT.sIx n n hi : Nat) : Int) ∧ (sliceBounds lo hi none n).2.2 = 1 := by
  refine ⟨?_, ?_, rfl⟩
  · cases lo with
    | none => simp [sliceBounds, HT.sIx]
    | some i =>
      simp only [sliceBounds, HT.sIx, Option.getD_none, show (1 : Int) > 0 by decide, if_true]
      by_cases h : i < 0
      · simp only [h, if_true] <;> omega
      · simp only [h, if_false] <;> omega
  · cases hi with
    | none => simp [sliceBounds, HT.sIx]
    | some i =>
      simp only [sliceBounds, HT.sIx, Option.getD_none, show (1 : Int) > 0 by decide, if_true]
      by_cases h : i < 0
      · simp only [h, if_true] <;> omega
      · simp only [h, if_false] <;> omega
theorem slicePick_cut (its : List Value) (lo hi : Option Int) : slicePick its.toArray lo hi none = ((its.drop (HT.sIx its.length 0 lo)).take (HT.sIx its.length its.length hi - HT.sIx its.length 0 lo)).toArray := by
  obtain ⟨h1, h2, h3⟩ := slice_bounds lo hi its.toArray.size
  unfold slicePick
  rw [h1, h2, h3]
  simp only [sliceRange_one, pick_run, List.size_toArray] <;> rfl
/-- xs[lo:hi] of a list: a new list -/
def rSlL (K : PySem.W.Frag) : V → Option Int → Option Int → Hp → VK → Prop := fun x lo hi H Q => ∃ a xs, x = .ref a ∧ SqL K H a xs ∧ ∀ p, H p = none → Q (.ref p) (upd H p (.lst (cutV xs lo hi)))
theorem sl_list : SlR X (rSlL X.K) := by
  intro pins s σ H x v vl vu lo hi sl Q I rx hs pl pu h
  obtain ⟨a, xs, rfl, hx, q⟩ := h
  cases rx
  obtain ⟨its, r, ht, hz⟩ := I.list hx
  have hlen := r.length
  refine ⟨"list", _, slot_list_getitem.lookup, ht.isList.typeIs, ?_⟩
  refine wpAny_getItem_list_slice ht.isList hs pl pu .none (by simp) ?_ (by rw [List.size_toArray] <;> omega)
  rw [slicePick_cut, ← hlen]
  refine ⟨.ref s.heap.objs.size, _, I.laid (t' := s.toks) (o := .lst (cutV xs lo hi)) (fun b ob q => Heap.get?_push_of_some _ q) (Nat.le_refl _) ?_, rfl, q _ (I.hok.fresh (Nat.le_refl _))⟩
  exact ⟨Nat.le_trans (cutV_length xs lo hi) hz, _, 0, (r.drop (HT.sIx xs.length 0 lo)).take (HT.sIx xs.length xs.length hi - HT.sIx xs.length 0 lo), Heap.get?_push_size _ rfl⟩

/-! ### in, not in: flat items -/
def flatV : V → Bool
  | .non => true
  | .bl _ => true
  | .int _ => true
  | .str _ => true
  | _ => false
/-- == of flat values -/
def eqV : V → V → Bool
  | .non, .non => true
  | .bl a, .bl b => a == b
  | .bl a, .int b => (if a then 1 else 0) == b
  | .int a, .bl b => a == (if b then 1 else 0)
  | .int a, .int b => a == b
  | .str a, .str b => a == b
  | _, _ => false
theorem eqAt_V {A : Around} {s : Shared} {y x : V} {u v : Value} (ry : RelV y u) (rx : RelV x v) (fy : flatV y = true) (fx : flatV x = true) : SeqAt.EqAt A s u v (eqV y x) := by
  cases y with
  | non =>
    cases ry
    cases x with
    | non => cases rx; exact SeqAt.EqAt.same _
    | bl b => cases rx; exact SeqAt.EqAt.none_bool b
    | int b => obtain ⟨t, rfl⟩ := rx; exact SeqAt.EqAt.none_int b t
    | str b => obtain ⟨t, rfl⟩ := rx; exact SeqAt.EqAt.none_str b t
    | _ => exact absurd (show false = true from fx) Bool.false_ne_true
  | bl a =>
    cases ry
    cases x with
    | non => cases rx; exact SeqAt.EqAt.bool_none a
    | bl b => cases rx; exact SeqAt.EqAt.bool_bool a b
    | int b => obtain ⟨t, rfl⟩ := rx; exact SeqAt.EqAt.bool_int a b t
    | str b => obtain ⟨t, rfl⟩ := rx; exact SeqAt.EqAt.bool_str a b t
    | _ => exact absurd (show false = true from fx) Bool.false_ne_true
  | int a =>
    obtain ⟨t', rfl⟩ := ry
    cases x with
    | non => cases rx; exact SeqAt.EqAt.int_none a t'
    | bl b => cases rx; exact SeqAt.EqAt.int_bool a t' b
    | int b => obtain ⟨t, rfl⟩ := rx; exact SeqAt.EqAt.int_int a t' b t
    | str b => obtain ⟨t, rfl⟩ := rx; exact SeqAt.EqAt.int_str a t' b t
    | _ => exact absurd (show false = true from fx) Bool.false_ne_true
  | str a =>
    obtain ⟨t', rfl⟩ := ry
    cases x with
    | non => cases rx; exact SeqAt.EqAt.str_none a t'
    | bl b => cases rx; exact SeqAt.EqAt.str_bool a t' b
    | int b => obtain ⟨t, rfl⟩ := rx; exact SeqAt.EqAt.str_int a t' b t
    | str b => obtain ⟨t, rfl⟩ := rx; exact SeqAt.EqAt.str_str a t' b t
    | _ => exact absurd (show false = true from fx) Bool.false_ne_true
  | _ => exact absurd (show false = true from fy) Bool.false_ne_true
/-- the items' answers, read off the values (a value's own answer does not lean on its token) -/
def eqU (x : V) (u : Value) : Bool := match u with
  | .none => eqV .non x
  | .bool b => eqV (.bl b) x
  | .int i _ => eqV (.int i) x
  | .str z _ => eqV (.str z) x
  | _ => false
theorem eqU_of {x y : V} {u : Value} (r : RelV y u) (f : flatV y = true) : eqU x u = eqV y x := by
  cases y with
  | non => cases r; rfl
  | bl b => cases r; rfl
  | int i => obtain ⟨t, rfl⟩ := r; rfl
  | str z => obtain ⟨t, rfl⟩ := r; rfl
  | _ => exact absurd (show false = true from f) Bool.false_ne_true
theorem any_eqU {x : V} : ∀ {xs : List V} {us : List Value}, Vals xs us → xs.all flatV = true → us.any (eqU x) = xs.any fun y => eqV y x
  | _, _, .nil, _ => rfl
  | y :: xs, u :: us, .cons r t, f => by
    rw [List.all_cons, Bool.and_eq_true] at f
    rw [List.any_cons, List.any_cons, eqU_of r f.1, any_eqU t f.2]
theorem mem_eqAt {A : Around} {s : Shared} {x : V} {v : Value} (rx : RelV x v) (fx : flatV x = true) : ∀ {xs : List V} {us : List Value}, Vals xs us → xs.all flatV = true → ∀ u ∈ us, SeqAt.EqAt A s u v (eqU x u)
  | _, _, .nil, _ => fun u hu => by cases hu
  | y :: xs, u :: us, .cons r t, f => fun u' hu => by
    rw [List.all_cons, Bool.and_eq_true] at f
    rcases List.mem_cons.mp hu with rfl | hu
    · rw [eqU_of r f.1]; exact eqAt_V r rx f.1 fx
    · exact mem_eqAt rx fx t f.2 u' hu
def inV (x : V) (xs : List V) : Bool := xs.any fun y => eqV y x
/-- x in a list or tuple of flat items -/
def rIn (K : PySem.W.Frag) (neg : Bool) : R2 := fun x y H Q => ∃ p xs, y = .ref p ∧ (SqL K H p xs ∨ SqT K H p xs) ∧ flatV x = true ∧ xs.all flatV = true ∧ Q (.bl (if neg then !inV x xs else inV x xs)) H
theorem op_in_seq : OpR X (compareOp .In) (rIn X.K false) := by
  intro pins s σ H x y v u Q I rx ry h
  obtain ⟨p, xs, rfl, hq, fx, fs, q⟩ := h
  cases ry
  rcases hq with hq | hq
  · obtain ⟨its, r, pl, hz⟩ := I.list hq
    refine SeqAt.in_listAt (eqU x) pl.isList (fun w hw => mem_eqAt rx fx r fs w (by simpa using hw)) ⟨.bl _, H, I, rfl, ?_⟩
    rw [show its.toArray.any (eqU x) = its.any (eqU x) by simp, any_eqU r fs]
    exact q
  · obtain ⟨its, r, pl, hz⟩ := I.tuple hq
    refine SeqAt.in_tupleAt (eqU x) pl (fun w hw => mem_eqAt rx fx r fs w (by simpa using hw)) ⟨.bl _, H, I, rfl, ?_⟩
    rw [show its.toArray.any (eqU x) = its.any (eqU x) by simp, any_eqU r fs]
    exact q
theorem op_notIn_seq : OpR X (compareOp .NotIn) (rIn X.K true) := by
  intro pins s σ H x y v u Q I rx ry h
  obtain ⟨p, xs, rfl, hq, fx, fs, q⟩ := h
  cases ry
  rcases hq with hq | hq
  · obtain ⟨its, r, pl, hz⟩ := I.list hq
    refine SeqAt.notIn_listAt (eqU x) pl.isList (fun w hw => mem_eqAt rx fx r fs w (by simpa using hw)) ⟨.bl _, H, I, rfl, ?_⟩
    rw [show its.toArray.any (eqU x) = its.any (eqU x) by simp, any_eqU r fs]
    exact q
  · obtain ⟨its, r, pl, hz⟩ := I.tuple hq
    refine SeqAt.notIn_tupleAt (eqU x) pl (fun w hw => mem_eqAt rx fx r fs w (by simpa using hw)) ⟨.bl _, H, I, rfl, ?_⟩
    rw [show its.toArray.any (eqU x) = its.any (eqU x) by simp, any_eqU r fs]
    exact q
theorem op_notIn_str : OpR X (compareOp .NotIn) (fun x y H Q => ∃ i j, x = .str i ∧ y = .str j ∧ Q (.bl (!(!(Builtin.Str.occurrences j i 0 j.length 1).isEmpty))) H) := by
  intro pins s σ H x y v u Q I rx ry h
  obtain ⟨i, j, rfl, rfl, q⟩ := h
  obtain ⟨t, rfl⟩ := rx
  obtain ⟨t', rfl⟩ := ry
  exact notIn_str ⟨.bl _, H, I, rfl, q⟩

/-! ### len, list(x), tuple(x) of any list or tuple that is read -/
theorem call_len_seq : CallR X (.builtin "len") (fun xs H Q => ∃ p ys, xs = [.ref p] ∧ (SqL X.K H p ys ∨ SqT X.K H p ys) ∧ Q (.int ys.length) H) := by
  intro pins s σ H xs us Q I r h
  obtain ⟨p, ys, rfl, hq, q⟩ := h
  obtain ⟨u, rfl, rx⟩ := vals1 r
  cases rx
  have hn := line63
  rcases hq with hq | hq
  · obtain ⟨its, r', pl, hz⟩ := I.list hq
    have hlen := r'.length
    exact Calls.call_len_list pl.isList (by simp only [List.size_toArray] <;> omega) ⟨.int ys.length, H, I.tok _, ⟨s.toks + 1, by rw [List.size_toArray, hlen]⟩, q⟩
  · obtain ⟨its, r', pl, hz⟩ := I.tuple hq
    have hlen := r'.length
    exact len_tuple pl (by simp only [List.size_toArray] <;> omega) ⟨.int ys.length, H, I.tok _, ⟨s.toks + 1, by rw [List.size_toArray, hlen]⟩, q⟩
theorem call_len_str : CallR X (.builtin "len") (fun xs H Q => ∃ z, xs = [.str z] ∧ z.length ≤ sizeLine ∧ Q (.int z.length) H) := by
  intro pins s σ H xs us Q I r h
  obtain ⟨z, rfl, hz, q⟩ := h
  obtain ⟨u, rfl, t, rfl⟩ := vals1 r
  have hn := line63
  exact len_str (by omega) ⟨.int z.length, H, I.tok _, ⟨_, rfl⟩, q⟩
theorem CallR.or {f : Value} {r r' : List V → Hp → VK → Prop} (h : CallR X f r) (h' : CallR X f r') : CallR X f (fun xs H Q => r xs H Q ∨ r' xs H Q) := by
  intro pins s σ H xs us Q I rs q
  rcases q with q | q
  · exact h pins s σ H xs us Q I rs q
  · exact h' pins s σ H xs us Q I rs q
theorem call_list_of : CallR X (.type "list") (fun xs H Q => ∃ p ys, xs = [.ref p] ∧ (SqL X.K H p ys ∨ SqT X.K H p ys) ∧ ∀ l, H l = none → Q (.ref l) (upd H l (.lst ys))) := by
  intro pins s σ H xs us Q I r h
  obtain ⟨p, ys, rfl, hq, q⟩ := h
  obtain ⟨u, rfl, rx⟩ := vals1 r
  cases rx
  have fin : ∀ (its : List Value), Vals ys its → ys.length ≤ sizeLine → ∀ (h' : Heap) (c' : Nat), (∀ b o', s.heap.get? b = some o' → h'.get? b = some o') →
      h'.get? s.heap.objs.size = some { cls := .type "list", dict := none, data := .seq its.toArray c', slots := #[] } → EP X pins σ Q (.ref s.heap.objs.size) { s with heap := h' } := fun its r' hz h' c' kp e =>
    ⟨.ref s.heap.objs.size, _, I.laid (t' := s.toks) kp (Nat.le_refl _) (show ObjOk X.prog X.w _ h' _ (.lst ys) from ⟨hz, its, c', r', e⟩), rfl, q _ (I.hok.fresh (Nat.le_refl _))⟩
  rcases hq with hq | hq
  · obtain ⟨its, r', pl, hz⟩ := I.list hq
    have hlen := r'.length
    obtain ⟨o, ho, hc, n, hd⟩ := pl.isList
    exact call_list_seq p (.inl rfl) ho hc hd (fun h' c' kp e => fin its r' hz h' c' kp e) (by simp only [List.size_toArray] <;> omega)
  · obtain ⟨its, r', pl, hz⟩ := I.tuple hq
    have hlen := r'.length
    obtain ⟨o, ho, hc, n, hd⟩ := pl
    exact call_list_seq p (.inr rfl) ho hc hd (fun h' c' kp e => fin its r' hz h' c' kp e) (by simp only [List.size_toArray] <;> omega)
theorem call_tuple_of : CallR X (.type "tuple") (fun xs H Q => ∃ p ys, xs = [.ref p] ∧ ((SqL X.K H p ys ∧ ∀ l, H l = none → Q (.ref l) (upd H l (.tup ys))) ∨ (SqT X.K H p ys ∧ Q (.ref p) H))) := by
  intro pins s σ H xs us Q I r h
  obtain ⟨p, ys, rfl, h⟩ := h
  obtain ⟨u, rfl, rx⟩ := vals1 r
  cases rx
  rcases h with ⟨hq, q⟩ | ⟨hq, q⟩
  · obtain ⟨its, r', pl, hz⟩ := I.list hq
    have hlen := r'.length
    refine call_tuple_list pl.isList (fun h' kp => ?_) (by simp only [List.size_toArray] <;> omega)
    have I1 : Inv X pins σ H { s with heap := h' } := I.kept (t' := s.toks) kp
    have I2 : Inv X pins σ (upd H h'.objs.size (.tup ys)) { s with heap := h'.push { cls := .type "tuple", data := .seq its.toArray } } :=
      I1.laid (t' := s.toks) (fun b o e => Heap.get?_push_of_some _ e) (Nat.le_refl _) (show ObjOk X.prog X.w _ _ _ (.tup ys) from ⟨hz, its, r', IsTup.new _ _⟩)
    exact ⟨.ref h'.objs.size, _, I2, rfl, q _ (I1.hok.fresh (Nat.le_refl _))⟩
  · obtain ⟨its, r', pl, hz⟩ := I.tuple hq
    exact call_tuple_same pl ⟨.ref p, H, I, rfl, q⟩

/-! ### the call of a builtin's method: o.m(..) -/
/-- the value is of that builtin type -/
def tyV (K : PySem.W.Frag) (T : String) (x : V) (H : Hp) : Prop := match x with
  | .str _ => T = "str"
  | .int _ => T = "int"
  | .ref p => (T = "list" ∧ ∃ xs, SqL K H p xs) ∨ (T = "tuple" ∧ ∃ o, K.lookup p = some o ∧ o.cls = .type "tuple" ∧ o.dict = none) ∨
      (T = "dict" ∧ ((∃ kvs, H p = some (.dK kvs)) ∨ ∃ kvs, H p = some (.dT kvs))) ∨ (T = "set" ∧ ∃ S n, H p = some (.set S n))
  | _ => False
theorem tyV_is {pins : List (Addr × Obj)} {σ : St} {H : Hp} {s : Shared} {T : String} {x : V} {v : Value} (I : Inv X pins σ H s) (r : RelV x v) (ty : tyV X.K T x H) :
    s.TypeIs v T ∧ ∀ a, v = .ref a → ∃ ob, s.heap.get? a = some ob ∧ ob.dict = none := by
  cases x with
  | str z =>
    obtain ⟨t, rfl⟩ := r
    cases (show T = "str" from ty)
    exact ⟨typeIs_str s z t, fun _ e => nomatch e⟩
  | int i =>
    obtain ⟨t, rfl⟩ := r
    cases (show T = "int" from ty)
    exact ⟨typeIs_int s i t, fun _ e => nomatch e⟩
  | ref p =>
    cases r
    rcases ty with ⟨rfl, xs, hq⟩ | ⟨rfl, o, hk, hc, hd⟩ | ⟨rfl, hk⟩ | ⟨rfl, S, n, hk⟩
    · obtain ⟨its, _, pl, _⟩ := I.list hq
      refine ⟨pl.isList.typeIs, fun a e => ?_⟩
      cases e
      obtain ⟨o, n, e, c, hd, _⟩ := pl
      exact ⟨o, e, hd⟩
    · refine ⟨⟨o, I.kIn p o hk, hc⟩, fun a e => ?_⟩
      cases e
      exact ⟨o, I.kIn _ o hk, hd⟩
    · have z : ∃ o, s.heap.get? p = some o ∧ o.ExactDict := by
        rcases hk with ⟨kvs, hk⟩ | ⟨kvs, hk⟩
        · obtain ⟨_, _, _, _, o, _, _, e, ex, _⟩ := I.hok p _ hk
          exact ⟨o, e, ex⟩
        · obtain ⟨_, _, _, _, o, _, _, e, ex, _⟩ := I.hok p _ hk
          exact ⟨o, e, ex⟩
      obtain ⟨o, e, ex⟩ := z
      refine ⟨⟨o, e, ex.1⟩, fun a e2 => ?_⟩
      cases e2
      exact ⟨o, e, ex.2.1⟩
    · obtain ⟨o, _, _, _, e, ex, _⟩ := I.hok p _ hk
      refine ⟨⟨o, e, ex.1⟩, fun a e2 => ?_⟩
      cases e2
      exact ⟨o, e, ex.2.1⟩
  | _ => exact False.elim ty
def tBM0 (K : PySem.W.Frag) (T : String) (r : V → List V → Hp → VK → Prop) (to : TE) : TE := fun σ H Q => to σ H fun x H1 => tyV K T x H1 ∧ r x [] H1 Q
def tBM (K : PySem.W.Frag) (T : String) (r : V → List V → Hp → VK → Prop) (to : TE) (t : TA) : TE := fun σ H Q => to σ H fun x H1 => tyV K T x H1 ∧ t σ H1 fun xs H2 => r x xs H2 Q
variable {o e : Expr} {es : List Expr} {to : TE} {t : TA} {name : Str} {apos cpos : Pos} {T id : String} {r : V → List V → Hp → VK → Prop}
theorem pe_bm0 (pa : PlainAttrs T) (slot : Slot T name id) (hty : typeOf (.builtin id) = pure (.type "method_descriptor")) (hm : MtR X id r) (ho : PE X o to)
    (hbase : attributeBase o name X.env (eval o X.env) = eval o X.env := by rfl) (hline : (apos.endLine == cpos.line) = true := by rfl) : PE X (.Call (.Attribute o name apos) [] [] cpos) (tBM0 X.K T r to) := by
  intro pins s σ H Q I h
  refine wpAny_Call_method0_late hbase hline (thn (ho pins s σ H _ I h) fun v s1 ⟨x, H1, I1, r1, ty, q1⟩ => ?_)
  obtain ⟨h1, h2⟩ := tyV_is I1 r1 ty
  exact ⟨T, id, pa, slot, hty, h1, h2, Calls.callWith_builtin rfl (PySem.evalArgs_none (hm pins s1 σ H1 x [] v [] Q I1 r1 .nil q1))⟩
theorem pe_bm (pa : PlainAttrs T) (slot : Slot T name id) (hty : typeOf (.builtin id) = pure (.type "method_descriptor")) (hm : MtR X id r) (ho : PE X o to) (ha : PA X (e :: es) t)
    (hbase : attributeBase o name X.env (eval o X.env) = eval o X.env := by rfl)
    (hfew : ((backTo cpos (starEach (e :: es) X.env)).all (fun x => !x.1) && (backToKw cpos (keywordEach [] X.env)).all (fun x => x.1.isSome)
      && decide ((e :: es).length + ([] : List Keyword).length + (if ([] : List Keyword).isEmpty then 0 else 1) < 30)) = true := by rfl)
    (hline : (apos.endLine == cpos.line) = true := by rfl) (hs : starEach (e :: es) X.env = (false, eval e X.env) :: starEach es X.env := by rfl) (hplain : (backTo cpos (starEach es X.env)).any (·.1) = false := by rfl) :
    PE X (.Call (.Attribute o name apos) (e :: es) [] cpos) (tBM X.K T r to t) := by
  intro pins s σ H Q I h
  refine wpAny_Call_method_late hbase hfew hline rfl (thn (ho pins s σ H _ I h) fun v s1 ⟨x, H1, I1, r1, ty, q1⟩ => ?_)
  obtain ⟨h1, h2⟩ := tyV_is I1 r1 ty
  refine ⟨T, id, pa, slot, hty, h1, h2, ?_⟩
  have hA := ha cpos pins s1 σ H1 _ I1 q1
  rw [hs] at hA ⊢
  refine Calls.callWith_builtin (by show (false || (backTo cpos (starEach es X.env)).any (·.1)) = false; rw [hplain] <;> rfl) (Calls.evalArgs_plain ?_)
  exact thn hA fun us s2 ⟨vs, H2, I2, r2, q2⟩ => hm pins s2 σ H2 x vs v us Q I2 r1 r2 q2
/- xs.append(e), list.index on a module's tuple .. are MtR facts of 06m -/
end
end L2

namespace L2
open PySem PySem.Spec PyProof.Rows

def MtM (X : Cx) (id : String) (r : V → List V → Hp → VK → Prop) : Prop :=
  ∀ (pins : List (Addr × Obj)) (s : Shared) (σ : St) (H : Hp) (x : V) (xs : List V) (v : Value) (us : List Value) (Q : VK), Inv X pins σ H s → RelV x v → Vals xs us → r x xs H Q →
    wpAny (model X.prog X.w) X.A (call (.builtin id) (v :: us)) (EP X pins σ Q) X.xe s

/-! ### lists of values -/
theorem Vals.one : ∀ {x : V} {us : List Value}, Vals [x] us → ∃ u, us = [u] ∧ RelV x u
  | _, _, .cons r .nil => ⟨_, rfl, r⟩
theorem Vals.two : ∀ {x y : V} {us : List Value}, Vals [x, y] us → ∃ u v, us = [u, v] ∧ RelV x u ∧ RelV y v
  | _, _, _, .cons r (.cons q .nil) => ⟨_, _, rfl, r, q⟩
theorem Vals.zero : ∀ {us : List Value}, Vals [] us → us = []
  | _, .nil => rfl
theorem Vals.dropLast {xs : List V} {us : List Value} (h : Vals xs us) : Vals xs.dropLast us.dropLast := by
  induction h with
  | nil => exact .nil
  | cons r t ih =>
    cases t with
    | nil => exact .nil
    | cons q t' => exact .cons r ih
theorem Vals.eraseIdx : ∀ {xs : List V} {us : List Value} (i : Nat), Vals xs us → Vals (xs.eraseIdx i) (us.eraseIdx i)
  | _, _, _, .nil => .nil
  | _, _, 0, .cons _ t => t
  | _, _, i + 1, .cons r t => .cons r (Vals.eraseIdx i t)
theorem Vals.reverse {xs : List V} {us : List Value} (h : Vals xs us) : Vals xs.reverse us.reverse := by
  induction h with
  | nil => exact .nil
  | cons r t ih => rw [List.reverse_cons, List.reverse_cons]; exact Vals.append ih (.cons r .nil)
theorem Vals.rep {xs : List V} {us : List Value} (h : Vals xs us) : ∀ k : Nat, Vals (List.replicate k xs).flatten (List.replicate k us).flatten
  | 0 => .nil
  | k + 1 => by
    rw [List.replicate_succ, List.replicate_succ, List.flatten_cons, List.flatten_cons]
    exact Vals.append h (Vals.rep h k)
theorem erase_last {α : Type} (l : List α) : l.eraseIdx (l.length - 1) = l.dropLast := by
  induction l with
  | nil => rfl
  | cons a r ih =>
    cases r with
    | nil => rfl
    | cons b r =>
      have e : (a :: b :: r).length - 1 = ((b :: r).length - 1) + 1 := by
        have h1 : (a :: b :: r).length = r.length + 2 := rfl
        have h2 : (b :: r).length = r.length + 1 := rfl
        omega
      rw [e, List.eraseIdx_cons_succ, ih]
      all_goals rfl
theorem len_erase {α : Type} : ∀ (l : List α) (i : Nat), (l.eraseIdx i).length ≤ l.length
  | [], _ => Nat.le_refl _
  | _ :: _, 0 => Nat.le_succ _
  | _ :: r, i + 1 => Nat.succ_le_succ (len_erase r i)
theorem foldl_rep (its : List Value) : ∀ (k : Nat) (acc : List Value),
    List.foldl (fun x1 x2 => x1 ++ x2) acc.toArray (List.replicate k its.toArray) = (acc ++ (List.replicate k its).flatten).toArray
  | 0, acc => by simp
  | k + 1, acc => by
    have e : acc.toArray ++ its.toArray = (acc ++ its).toArray := by simp
    have e2 : (acc ++ its) ++ (List.replicate k its).flatten = acc ++ (List.replicate (k + 1) its).flatten := by
      rw [List.replicate_succ, List.flatten_cons, List.append_assoc]
    rw [← e2, ← foldl_rep its k (acc ++ its), ← e, List.replicate_succ, List.foldl_cons]

section
variable {X : Cx} {pins : List (Addr × Obj)} {σ : St} {H : Hp} {s : Shared} {l b : Addr} {xs ys zs : List V}

/-! ### the two steps: a tracked list is rewritten, a new list is laid -/
theorem Inv.lset {its its' : List Value} {n : Nat} {f : Array Value → Array Value} {t' : Nat} (I : Inv X pins σ H s) (hH : H l = some (.lst xs))
    (e : s.heap.get? l = some { cls := .type "list", data := .seq its.toArray n }) (hf : f its.toArray = its'.toArray) (hv : Vals ys its') (hz : ys.length ≤ sizeLine) :
    Inv X pins σ (upd H l (.lst ys)) { s with heap := s.heap.update l (Obj.mapSeq f), toks := t' } := by
  have q := PySem.IsL.update e f
  rw [hf] at q
  refine I.write (x := l) (e := l) (by rw [hH]; exact trivial) (.inl rfl) (fun b' u hb hu => (Heap.get?_update_other s.heap (Obj.mapSeq f) (Ne.symm hb)).trans hu) ⟨_, q⟩ ?_
  exact ⟨hz, its', _, hv, q⟩
theorem Inv.lnew {its : List Value} {t' : Nat} (I : Inv X pins σ H s) (hv : Vals ys its) (hz : ys.length ≤ sizeLine) :
    Inv X pins σ (upd H s.heap.objs.size (.lst ys)) { s with heap := s.heap.push { cls := .type "list", data := .seq its.toArray }, toks := t' } :=
  I.laid (fun _ _ q => Heap.get?_push_of_some _ q) (Nat.le_refl _) ⟨hz, its, 0, hv, Heap.get?_push_size _ rfl⟩
theorem Inv.fresh (I : Inv X pins σ H s) : H s.heap.objs.size = none := I.hok.fresh (Nat.le_refl _)
theorem Inv.lstM (I : Inv X pins σ H s) (hH : H l = some (.lst xs)) : xs.length ≤ sizeLine ∧ ∃ (its : List Value) (n : Nat), Vals xs its ∧ xs.length = its.length ∧ s.heap.get? l = some { cls := .type "list", data := .seq its.toArray n } := by
  obtain ⟨z, its, n, r, e⟩ := I.hok l _ hH
  exact ⟨z, its, n, r, r.length, e⟩

theorem notLongL {n : Nat} (h : n ≤ sizeLine) : Builtin.List.listTooLong n = false := by
  unfold Builtin.List.listTooLong
  exact decide_eq_false (by omega)
end

section
variable {X : Cx}

/-! ### methods -/
def rAppend : V → List V → Hp → VK → Prop := fun x vs H Q => ∃ l xs y, x = .ref l ∧ vs = [y] ∧ H l = some (.lst xs) ∧ xs.length < sizeLine ∧ Q .non (upd H l (.lst (xs ++ [y])))
theorem mt_append : MtM X "list.append" rAppend := by
  intro pins s σ H x vs v us Q I rx rv h
  obtain ⟨l, xs, y, rfl, rfl, hH, hz, q⟩ := h
  cases rx
  obtain ⟨u, rfl, ru⟩ := rv.one
  obtain ⟨z, its, n, r, hl, e⟩ := I.lstM hH
  refine call_meets F.slot_list_append ⟨_, e, rfl⟩ F.entry_list_append (F.args_list_append_2 _ _) (PySem.list_append l its.toArray n u (by rw [List.size_toArray]; omega)) ⟨e, ?_⟩
  refine ⟨.non, _, I.lset (its' := its ++ [u]) hH e (by simp) (r.append (.cons ru .nil)) ?_, rfl, q⟩
  rw [List.length_append, List.length_singleton]
  omega

def rExtend : V → List V → Hp → VK → Prop := fun x vs H Q => ∃ l b xs zs, x = .ref l ∧ vs = [.ref b] ∧ H l = some (.lst xs) ∧ H b = some (.lst zs) ∧ xs.length + zs.length ≤ sizeLine ∧ Q .non (upd H l (.lst (xs ++ zs)))
theorem mt_extend : MtM X "list.extend" rExtend := by
  intro pins s σ H x vs v us Q I rx rv h
  obtain ⟨l, b, xs, zs, rfl, rfl, hH, hB, hz, q⟩ := h
  cases rx
  obtain ⟨u, rfl, ru⟩ := rv.one
  cases ru
  obtain ⟨z, its, n, r, hl, e⟩ := I.lstM hH
  obtain ⟨z2, its2, n2, r2, hl2, e2⟩ := I.lstM hB
  have hsz : its.toArray.size + its2.toArray.size ≤ sizeLine := by rw [List.size_toArray, List.size_toArray]; omega
  have hlong : ¬ (!its.toArray.isEmpty && Builtin.List.listTooLong (its.toArray.size + its2.toArray.size)) = true := by
    rw [notLongL hsz, Bool.and_false]
    exact Bool.false_ne_true
  refine call_meets F.slot_list_extend ⟨_, e, rfl⟩ F.entry_list_extend (F.args_list_extend_2 _ _)
    (AutoSeq1.list_extend_list_list_0 l its.toArray n b its2.toArray n2 hlong (by rw [List.size_toArray]; omega) (by omega)) ⟨e, e2, ?_⟩
  refine ⟨.non, _, I.lset (its' := its ++ its2) hH e (by simp) (r.append r2) ?_, rfl, q⟩
  rw [List.length_append]
  omega

def rPop : V → List V → Hp → VK → Prop := fun x vs H Q => ∃ l xs y, x = .ref l ∧ vs = [] ∧ H l = some (.lst xs) ∧ xs[xs.length - 1]? = some y ∧ Q y (upd H l (.lst xs.dropLast))
theorem mt_pop : MtM X "list.pop" rPop := by
  intro pins s σ H x vs v us Q I rx rv h
  obtain ⟨l, xs, y, rfl, rfl, hH, hy, q⟩ := h
  cases rx
  have hus := rv.zero
  subst hus
  obtain ⟨z, its, n, r, hl, e⟩ := I.lstM hH
  obtain ⟨u, hu, ru⟩ := r.get hy
  have hy' : its.toArray[its.toArray.size - 1]? = some u := by
    show its.toArray[its.length - 1]? = some u
    rw [← Array.getElem?_toList, ← hl]
    exact hu
  refine call_meets F.slot_list_pop ⟨_, e, rfl⟩ F.entry_list_pop (F.args_list_pop_1 _) (MeetsSeq.list_pop_last l its.toArray n u hy' (by rw [List.size_toArray]; omega)) ⟨e, ?_⟩
  refine ⟨y, _, I.lset (its' := its.dropLast) hH e ?_ r.dropLast ?_, ru, q⟩
  · show its.toArray.eraseIdxIfInBounds (its.toArray.size - 1) = its.dropLast.toArray
    rw [List.size_toArray, List.eraseIdxIfInBounds_toArray, erase_last]
  · rw [List.length_dropLast]
    omega

def rPopAt : V → List V → Hp → VK → Prop := fun x vs H Q => ∃ l xs i k y, x = .ref l ∧ vs = [.int i] ∧ H l = some (.lst xs) ∧ -(2 ^ 63) ≤ i ∧ i < 2 ^ 63 ∧ seqIndex? i xs.length = some k ∧ xs[k]? = some y ∧ Q y (upd H l (.lst (xs.eraseIdx k)))
theorem mt_popAt : MtM X "list.pop" rPopAt := by
  intro pins s σ H x vs v us Q I rx rv h
  obtain ⟨l, xs, i, k, y, rfl, rfl, hH, h1, h2, hk, hy, q⟩ := h
  cases rx
  obtain ⟨u, rfl, ru⟩ := rv.one
  obtain ⟨t, rfl⟩ := ru
  obtain ⟨z, its, n, r, hl, e⟩ := I.lstM hH
  obtain ⟨w, hw, rw'⟩ := r.get hy
  refine call_meets F.slot_list_pop ⟨_, e, rfl⟩ F.entry_list_pop (F.args_list_pop_2 _ _)
    (MeetsSeq.list_pop_at l its.toArray n i t k w (fitsIndex_both h1 h2) (by rw [List.size_toArray, ← hl]; exact hk) (by rw [← Array.getElem?_toList]; exact hw) (by rw [List.size_toArray]; omega)) ⟨e, ?_⟩
  refine ⟨y, _, I.lset (its' := its.eraseIdx k) hH e ?_ (r.eraseIdx k) ?_, rw', q⟩
  · show its.toArray.eraseIdxIfInBounds k = (its.eraseIdx k).toArray
    rw [List.eraseIdxIfInBounds_toArray]
  · have := len_erase xs k
    omega

def rReverse : V → List V → Hp → VK → Prop := fun x vs H Q => ∃ l xs, x = .ref l ∧ vs = [] ∧ H l = some (.lst xs) ∧ Q .non (upd H l (.lst xs.reverse))
theorem mt_reverse : MtM X "list.reverse" rReverse := by
  intro pins s σ H x vs v us Q I rx rv h
  obtain ⟨l, xs, rfl, rfl, hH, q⟩ := h
  cases rx
  have hus := rv.zero
  subst hus
  obtain ⟨z, its, n, r, hl, e⟩ := I.lstM hH
  refine call_meets F.slot_list_reverse ⟨_, e, rfl⟩ F.entry_list_reverse (F.args_list_reverse_1 _) (AutoSeq1.list_reverse_list_0 l its.toArray n (by rw [List.size_toArray]; omega)) ⟨e, ?_⟩
  refine ⟨.non, _, I.lset (its' := its.reverse) hH e (by simp) r.reverse ?_, rfl, q⟩
  rw [List.length_reverse]
  omega

def rClear : V → List V → Hp → VK → Prop := fun x vs H Q => ∃ l xs, x = .ref l ∧ vs = [] ∧ H l = some (.lst xs) ∧ Q .non (upd H l (.lst []))
theorem mt_clear : MtM X "list.clear" rClear := by
  intro pins s σ H x vs v us Q I rx rv h
  obtain ⟨l, xs, rfl, rfl, hH, q⟩ := h
  cases rx
  have hus := rv.zero
  subst hus
  obtain ⟨z, its, n, r, hl, e⟩ := I.lstM hH
  refine call_meets F.slot_list_clear ⟨_, e, rfl⟩ F.entry_list_clear (F.args_list_clear_1 _) (AutoSeq1.list_clear_list_0 l its.toArray n (by rw [List.size_toArray]; omega)) ⟨e, ?_⟩
  exact ⟨.non, _, I.lset (its' := []) (ys := []) hH e rfl .nil (Nat.zero_le _), rfl, q⟩

/-! ### list + list, list += list, list * int -/
def rCat : R2 := fun x y H Q => ∃ l b xs zs, x = .ref l ∧ y = .ref b ∧ H l = some (.lst xs) ∧ H b = some (.lst zs) ∧ xs.length + zs.length ≤ sizeLine ∧ ∀ p, H p = none → Q (.ref p) (upd H p (.lst (xs ++ zs)))
theorem op_cat : OpR X (binaryOp .Add) rCat := by
  intro pins s σ H x y v u Q I rx ry h
  obtain ⟨l, b, xs, zs, rfl, rfl, hH, hB, hz, q⟩ := h
  cases rx
  cases ry
  obtain ⟨z, its, n, r, hl, e⟩ := I.lstM hH
  obtain ⟨z2, its2, n2, r2, hl2, e2⟩ := I.lstM hB
  refine PySem.P.add_list e e2 ?_ (by rw [List.size_toArray, List.size_toArray]; omega)
  have ea : its.toArray ++ its2.toArray = (its ++ its2).toArray := by simp
  rw [ea]
  exact ⟨.ref _, _, I.lnew (t' := s.toks) (r.append r2) (by rw [List.length_append]; omega), rfl, q _ I.fresh⟩
/-- a list times an int (a negative one is nothing) -/
def rRep : R2 := fun x y H Q => ∃ l k xs, x = .ref l ∧ y = .int k ∧ H l = some (.lst xs) ∧ -(2 ^ 63) ≤ k ∧ k < 2 ^ 63 ∧ xs.length * k.toNat ≤ sizeLine ∧
  ∀ p, H p = none → Q (.ref p) (upd H p (.lst (List.replicate k.toNat xs).flatten))
theorem len_rep {α : Type} (xs : List α) (k : Nat) : (List.replicate k xs).flatten.length = k * xs.length := by
  induction k with
  | zero => simp
  | succ k ih => rw [List.replicate_succ, List.flatten_cons, List.length_append, ih, Nat.succ_mul, Nat.add_comm]
theorem op_rep : OpR X (binaryOp .Mult) rRep := by
  intro pins s σ H x y v u Q I rx ry h
  obtain ⟨l, k, xs, rfl, rfl, hH, h1, h2, hz, q⟩ := h
  cases rx
  obtain ⟨t, rfl⟩ := ry
  obtain ⟨z, its, n, r, hl, e⟩ := I.lstM hH
  have hlen : its.toArray.size * k.toNat ≤ sizeLine := by rw [List.size_toArray, ← hl]; exact hz
  have hcap : ¬ its.toArray.size * k.toNat > (2 ^ 63 - 1) / 8 := by
    have : (sizeLine : Nat) ≤ (2 ^ 63 - 1) / 8 := by decide
    omega
  have hfit : ¬ (!Builtin.List.listFitsIndex k) = true := by
    rw [fitsIndex_both h1 h2]
    exact Bool.false_ne_true
  have hlong : ¬ Builtin.List.listTooLong (its.toArray.size * k.toNat) = true := by
    rw [notLongL hlen]
    exact Bool.false_ne_true
  have hnew : List.foldl (fun x1 x2 => x1 ++ x2) #[] (List.replicate (if its.toArray.isEmpty = true then 0 else k.toNat) its.toArray) = (List.replicate k.toNat its).flatten.toArray := by
    have f0 : ∀ m : Nat, List.foldl (fun x1 x2 => x1 ++ x2) #[] (List.replicate m its.toArray) = (List.replicate m its).flatten.toArray := fun m => by
      have := foldl_rep its m []
      rw [List.nil_append] at this
      exact this
    rw [f0]
    cases its with
    | nil => simp
    | cons a r' => rw [if_neg (by simp)]
  refine wpAny_binaryOp_repeat_ref (T := "list") (U := "int") (by decide) ⟨_, e, rfl⟩ (fun s' => typeIs_int s' k t) noFill_list_mul F.fills_int_mul F.slot_int_rmul repeat_list F.slot_int_index.lookup
    (call_meets F.slot_int_rmul (typeIs_int s k t) F.entry_int_rmul (F.args_int_rmul_2 _ _) (int___rmul___int_list k t l its.toArray n)
      ⟨e, rfl, ⟨_, e, rfl⟩, call_meets F.slot_list_mul ⟨_, e, rfl⟩ F.entry_list_mul (F.args_list_mul_2 _ _) (AutoListH.list___mul___list_int_3 l its.toArray n k t hfit hcap hlong) ⟨e, ?_⟩⟩)
  rw [hnew]
  exact ⟨.ref _, _, I.lnew (t' := s.toks) (r.rep k.toNat) (by rw [len_rep, Nat.mul_comm]; exact hz), rfl, q _ I.fresh⟩

/-! ### del xs[i] -/
theorem del_list {pins : List (Addr × Obj)} {s : Shared} {σ : St} {H : Hp} {l : Addr} {xs : List V} {i : Int} {t : Tok} {k : Nat} {Q : Unit → Shared → Prop} (I : Inv X pins σ H s) (hH : H l = some (.lst xs))
    (h1 : -(2 ^ 63) ≤ i) (h2 : i < 2 ^ 63) (hk : seqIndex? i xs.length = some k) (h : ∀ s', Inv X pins σ (upd H l (.lst (xs.eraseIdx k))) s' → Q () s') :
    wpAny (model X.prog X.w) X.A (delItem (.ref l) (.int i t)) Q X.xe s := by
  obtain ⟨z, its, n, r, hl, e⟩ := I.lstM hH
  refine PySem.P.delItem_list (k := k) e (fitsIndex_both h1 h2) (by rw [List.size_toArray, ← hl]; exact hk) (h _ ?_) (by rw [List.size_toArray]; omega)
  refine I.lset (its' := its.eraseIdx k) (t' := s.toks) hH e ?_ (r.eraseIdx k) ?_
  · show its.toArray.eraseIdxIfInBounds k = (its.eraseIdx k).toArray
    rw [List.eraseIdxIfInBounds_toArray]
  · have := len_erase xs k
    omega
end

/-! ### xs[a:b] = ys -/
section
variable {prog : Program} {w : World} {A : Around} {E : Value → Shared → Prop} {s : Shared}
theorem splice_eq (its its2 : List Value) (a c : Nat) : its.toArray.extract 0 a ++ its2.toArray ++ its.toArray.extract c its.toArray.size = (its.take a ++ its2 ++ its.drop c).toArray := by
  apply Array.toList_inj.mp
  first
    | (simp
       exact List.take_of_length_le (by simp))
    | simp [List.take_of_length_le]
    | simp
theorem bounds_run {a c n : Nat} (hac : a ≤ c) (hc : c ≤ n) : sliceBounds (some (a : Int)) (some (c : Int)) none n = ((a : Int), (c : Int), 1) := by
  simp only [sliceBounds, Option.getD_none]
  have h1 : ¬ ((a : Int) < 0) := by omega
  have h2 : ¬ ((c : Int) < 0) := by omega
  simp only [h1, h2, if_false, show (1 : Int) > 0 by decide, if_true]
  congr 1
  · omega
  · congr 1; omega
set_option maxRecDepth 100000 in
/-- list.__setitem__ with a slice of step one and another list -/
theorem setItem_slice {l b sl : Addr} {items new : Array Value} {n n2 : Nat} {vl vu : Value} {a c : Nat} {Q : Unit → Shared → Prop}
    (e : s.heap.get? l = some { cls := .type "list", data := .seq items n }) (e2 : s.heap.get? b = some { cls := .type "list", data := .seq new n2 }) (hne : l ≠ b)
    (hs : s.heap.IsSliceOf sl vl vu .none) (pl : IsPart vl (some (a : Int))) (pu : IsPart vu (some (c : Int))) (hac : a ≤ c) (hc : c ≤ items.size)
    (hsz : items.size + new.size ≤ sizeLine) (h : Q () { s with heap := s.heap.update l (Obj.mapSeq fun xs => xs.extract 0 a ++ new ++ xs.extract c xs.size) }) :
    wpAny (model prog w) A (setItem (.ref l) (.ref sl) (.ref b)) Q E s := by
  have hl : s.heap.IsList l items := PySem.IsL.isList e
  have hb : s.heap.IsList b new := PySem.IsL.isList e2
  obtain ⟨os, hos, hcs, hds⟩ := id hs
  have hTs : s.TypeIs (.ref sl) "slice" := ⟨os, hos, hcs⟩
  have hstep : ¬ ((rawPart none == rawInt 0) = true) := Bool.false_ne_true
  have hsame : Builtin.List.listSameRef (.ref l) (.ref b) = false := by
    unfold Builtin.List.listSameRef
    exact beq_eq_false_iff_ne.mpr hne
  have hmax : (max (a : Int) (c : Int)).toNat = c := by omega
  have hz' : ((fun xs : Array Value => xs.extract 0 a ++ new ++ xs.extract c xs.size) items).size ≤ sizeLine + 1 := by
    simp only [Array.size_append, Array.size_extract]
    omega
  unfold setItem
  try with_reducible refine wpAny_holding ?_
  first | refine wpAny_bind (wpAny_pure ?_) | skip
  refine wpAny_bind (wpAny_sequenceKey hl.typeIs (by decide) ?_)
  refine wpAny_bind (wpAny_callSpecial?_slot (name := Str.ofString "__setitem__") hl.typeIs slot_list_setitem
    (wpAny_call_entry slot_list_setitem hl.typeIs entry_list_setitem ?_ (args_list_setitem _ _ _)))
  show wpAny _ _ (Builtin.List.listSubscript? (.ref sl) >>= _) _ _ s
  refine wpAny_bind ?_
  unfold Builtin.List.listSubscript?
  refine wpAny_bind (wpAny_specialOf hTs slice_no_index ?_)
  simp only [Option.isNone_none, if_true]
  refine wpAny_pure ?_
  show wpAny _ _ (typeOf (.ref sl) >>= _) _ _ s
  refine wpAny_bind (wpAny_typeOf hTs ?_)
  first
    | rw [if_neg (by decide)]
    | refine PySem.W.KFB.if_not (by decide) ?_
  rw [listSliceParts_eq]
  refine wpAny_bind (wpAny_bind (wpAny_field hos hds (x := .none) rfl (wpAny_bind (wpAny_listPart .none ?_))))
  rw [if_neg hstep]
  refine wpAny_bind (wpAny_field hos hds (x := vl) rfl (wpAny_bind (wpAny_listPart pl ?_)))
  refine wpAny_bind (wpAny_field hos hds (x := vu) rfl (wpAny_bind (wpAny_listPart pu (wpAny_pure ?_))))
  first
    | simp only [hsame, Bool.false_eq_true, if_false]
    | refine PySem.W.KFB.if_not hsame ?_
    | (dsimp only
       rw [if_neg (by rw [hsame]; exact Bool.false_ne_true)])
  refine wpAny_bind (m := Builtin.List.listAllItems (.ref b) "must assign iterable to extended slice") ?_
  unfold Builtin.List.listAllItems
  refine wpAny_bind (wpAny_typeOf hb.typeIs ?_)
  first
    | refine PySem.W.KFB.if_so (by decide) ?_
    | rw [if_pos (by decide)]
    | simp only [beq_self_eq_true, Bool.true_or, if_true]
  unfold Builtin.List.listItems
  refine wpAny_bind (wpAny_seqItems e2 rfl (wpAny_pure ?_))
  refine wpAny_bind (wpAny_bind (wpAny_seqItems e rfl (wpAny_pure ?_)))
  refine wpAny_bind (wpAny_of_eq ((sliceIndices_raw (some (a : Int)) (some (c : Int)) none items.size (by simp)).trans (congrArg (pure : Int × Int × Int → Sem (Int × Int × Int)) (bounds_run hac hc))) ?_)
  show wpAny _ _ (if ((1 : Int) == 1) = true then _ else _) _ _ s
  rw [if_pos (by decide)]
  refine wpAny_bind (wpAny_rule ?_)
  first
    | simp only [notLongL hsz, Bool.false_eq_true, if_false]
    | refine PySem.W.KFB.if_not (notLongL hsz) ?_
  first | refine wpAny_bind (wpAny_pure ?_) | skip
  show wpAny _ _ (updateSeq l (fun xs => xs.extract 0 ((a : Int)).toNat ++ new ++ xs.extract (max (a : Int) (c : Int)).toNat xs.size) >>= _) _ _ s
  rw [hmax, Int.toNat_natCast]
  refine wpAny_bind (wpAny_updateSeq (hz := Nat.le_trans (Nat.le_add_right _ _) hsz) (_hz' := hz') e rfl ?_)
  refine wpAny_bind (wpAny_letGo ?_)
  first
    | exact wpAny_bind (wpAny_pure (wpAny_pure ⟨.none, rfl, wpAny_pure h⟩))
    | exact wpAny_pure ⟨.none, rfl, wpAny_pure h⟩
end

section
variable {X : Cx}
/-- xs[a:c] = ys of another list, at the value level: sl is the slice object that was just made -/
theorem set_slice {pins : List (Addr × Obj)} {s : Shared} {σ : St} {H : Hp} {l b sl : Addr} {xs ys : List V} {a c : Int} {vl vu : Value} {Q : Unit → Shared → Prop} (I : Inv X pins σ H s)
    (hH : H l = some (.lst xs)) (hB : H b = some (.lst ys)) (hne : l ≠ b) (hs : s.heap.IsSliceOf sl vl vu .none) (ra : RelV (.int a) vl) (rc : RelV (.int c) vu) (h0 : 0 ≤ a) (hac : a ≤ c) (hc : c ≤ xs.length)
    (hz : xs.length + ys.length ≤ sizeLine) (h : ∀ s', Inv X pins σ (upd H l (.lst (xs.take a.toNat ++ ys ++ xs.drop c.toNat))) s' → Q () s') :
    wpAny (model X.prog X.w) X.A (setItem (.ref l) (.ref sl) (.ref b)) Q X.xe s := by
  obtain ⟨ta, rfl⟩ := ra
  obtain ⟨tc, rfl⟩ := rc
  obtain ⟨z, its, n, r, hl, e⟩ := I.lstM hH
  obtain ⟨z2, its2, n2, r2, hl2, e2⟩ := I.lstM hB
  obtain ⟨a', rfl⟩ := Int.eq_ofNat_of_zero_le h0
  obtain ⟨c', rfl⟩ := Int.eq_ofNat_of_zero_le (Int.le_trans h0 hac)
  simp only [Int.toNat_natCast] at h
  refine setItem_slice (a := a') (c := c') e e2 hne hs (.int _ _) (.int _ _) (by omega) (by rw [List.size_toArray]; omega) (by rw [List.size_toArray, List.size_toArray]; omega) (h _ ?_)
  refine I.lset (its' := its.take a' ++ its2 ++ its.drop c') (t' := s.toks) hH e ?_ (Vals.append (Vals.append (r.take _) r2) (r.drop _)) ?_
  · exact splice_eq its its2 a' c'
  · rw [List.length_append, List.length_append, List.length_take, List.length_drop]
    omega
end
end L2

namespace Att
open PySem PySem.W PySem.Calls PyProof.Rows

/-! ### the script -/
theorem ints_of_wellAll {P : Params} {h : Heap} : ∀ (ns : List Int) (vs : List Value), WellAll P h vs (ns.map WData.int) → IntsAre vs ns := by
  intro ns
  induction ns with
  | nil =>
    intro vs w
    rw [List.map_nil] at w
    cases w
    exact .nil
  | cons n ns ih =>
    intro vs w
    rw [List.map_cons] at w
    cases w with
    | cons a b =>
      cases a
      exact .cons _ _ (ih _ b)

theorem script_of {l : OpenLaw} {n : Nat} (hn : l.most = some n) {P : Params} {h : Heap} {args : List WData} {vals : List Value}
    (hpre : l.row.toRowW.claim.pre args = true) (hwl : WellAll P h vals args) :
    ∃ a vs ns, vals = [Value.ref a] ∧ args = [WData.list (ns.map WData.int)] ∧ h.get? a = some { cls := .type "list", data := .seq vs.toArray } ∧ IntsAre vs ns ∧ ns.length ≤ n := by
  have hsh : WShape.hasAll [] args [.list .int] = true := (pre_splitW hpre).1
  have hc : l.pre.holds [] { args := args } = true := (pre_splitW hpre).2
  obtain ⟨d, r, rfl, h1, h2⟩ := hasAllW_cons hsh
  obtain rfl := hasAllW_nil h2
  obtain ⟨xs, rfl, h3⟩ := hasW_list h1
  obtain ⟨ns, rfl⟩ := items_int h3
  have hlen : ns.length ≤ n := by
    unfold OpenLaw.pre at hc
    have h4 : (WTm.not (.lt (.lit (.int (n : Int))) (.len (.arg 0)))).holds [] { args := [.list (ns.map .int)] } = true := by
      have h4 := (holds_andW hc).1
      rw [hn] at h4
      exact h4
    have h5 := condW_of h4 (w_not (w_lt w_lit (w_len_list (w_arg rfl))))
    rw [List.length_map] at h5
    refine Nat.le_of_not_lt fun q => ?_
    have q' : (n : Int) < ((ns.length : Nat) : Int) := by omega
    first
      | (rw [decide_eq_true q'] at h5; exact absurd h5 (by decide))
      | (simp at h5; omega)
  cases hwl with
  | cons w1 w2 =>
    cases w2
    cases w1 with
    | list ho hall => exact ⟨_, _, ns, rfl, rfl, ho, ints_of_wellAll ns _ hall, hlen⟩

theorem post_true (l : OpenLaw) (args : List WData) : l.row.toRowW.claim.post args (.bool true) args = true :=
  postW_of (r := l.row.toRowW) (X := (true == true))
    (show WShape.has [] (.bool true) .bool = true by first | rfl | decide | simp [WShape.has, WShape.arms, WShape.armsAll])
    (show (WTm.eq .res (.lit (.bool true))).value [] { args := args, res := some (.bool true), after := args } = some (.bool (true == true)) from w_eq_bool (w_res rfl) w_lit) rfl

/-! ### the attachment: holds_open's last premise (the goal 'hc' behind k_head) from a wpAny of the law's body -/
theorem attach {l : OpenLaw} {n : Nat} {q : Program} {loose : List Str} {XP : (Str → Option Value) → Heap → Prop} {YP : World → Heap → Prop} {d : DefRec} {x : Str}
    (hn : l.most = some n) (hdf : d.params.defaults = [])
    (hbind : ∀ pm cd doc v : Value, bindArgs (docDef d.name d.params d.body d.scope pm cd doc) ⟨[v], []⟩ = pure [(x, v)])
    (hx : d.scope.names.lookup x = some .local ∨ d.scope.names.lookup x = some .cell)
    (hk : d.scope.kind = .function) (hco : d.scope.isCoroutine = false) (hgen : d.scope.isGenerator = false)
    (body : ∀ (w : World) (s₀ s₁ s : Shared) (mg mb : Str → Option Value) (fa : Addr) (o : Obj) (pm cd doc : Value) (a : Addr) (vs : List Value) (ns : List Int),
      Ground q loose [] XP w s₀ mg mb s₁.heap → YP w s₁.heap →
      s₁.heap.get? fa = some o → o.data = .func (docDef d.name d.params d.body d.scope pm cd doc) → s₁.heap.CodeRec cd d.name → mg d.name = some (.ref fa) →
      s₁.heap.get? a = some { cls := .type "list", data := .seq vs.toArray } → IntsAre vs ns → ns.length ≤ n →
      s.gens = #[] → s.os = s₁.os →
      Fr s₁.heap s₁.heap.objs.size s.heap (bindL (envOfC d.name d.scope s₁.heap.objs.size fa cd).kindOf [(x, .ref a)] fun _ => none) →
      Cl s₁.heap.objs.size (cellsFrom (s₁.heap.objs.size + 1) d.scope.names []) s.heap (bindC (envOfC d.name d.scope s₁.heap.objs.size fa cd).kindOf [(x, .ref a)] fun _ => none) →
      wpAny (model l.prog w) (callerA.deeper (envOfC d.name d.scope s₁.heap.objs.size fa cd)) (execs d.body (envOfC d.name d.scope s₁.heap.objs.size fa cd))
        (fun f s' => f = .ret (.bool true) ∧ OldK s₁.heap s'.heap ∧ s'.os = s₁.os ∧ AllBare s'.gens) (fun _ _ => False) s) :
    WalkO q loose XP YP l.row.toRowW d [] (fun f vs => PySem.call f vs) := by
  intro w s₀ s₁ mg mb G Y fa o pm cd doc dV kV ho hd hcd hD hmg hg args vals as hpre hlay hrd hwl hlo
  obtain rfl : dV = .none := Dflts.none hD hdf
  obtain rfl : kV = .none := Dflts.noKw hD
  obtain ⟨a, vs, ns, rfl, rfl, hobj, hints, hlen⟩ := script_of hn hpre hwl
  refine enter_call ?_
  refine call_cells_ret (o := o) (by rw [depth_caller]; decide) ho (fd_plain hd) G.T.nolimit hcd (hbind pm cd doc (.ref a)) (fun y hy => ?_) (fun h₁ tk F X => ?_) hco hgen hk
  · obtain rfl : y = (x, Value.ref a) := List.mem_singleton.mp hy
    rcases hx with e | e
    · exact .inl e
    · exact .inr ⟨e, cellsFrom_some _ _ _ (.inl e)⟩
  · refine wpAny_mono (body w s₀ s₁ { s₁ with heap := h₁, toks := tk } mg mb fa o pm cd doc a vs ns G Y ho (fd_plain hd) hcd hmg hobj hints hlen hg rfl F X) (fun f s' hq => ?_) (fun _ _ hq => hq)
    obtain ⟨rfl, h2, h3, h4⟩ := hq
    exact ⟨.inl ⟨.bool true, .bool true, [], rfl, fun _ => rfl, .bool true, post_true l _, fun _ => ⟨List.Pairwise.nil, fun _ hm => (nomatch hm)⟩⟩, h2, h3, h4⟩

/-- the same from a codeAny of the CALL (for a layer whose function contracts speak of calls) -/
theorem attach_call {l : OpenLaw} {n : Nat} {q : Program} {loose : List Str} {XP : (Str → Option Value) → Heap → Prop} {YP : World → Heap → Prop} {d : DefRec}
    (hn : l.most = some n) (hdf : d.params.defaults = [])
    (call : ∀ (w : World) (s₀ s₁ : Shared) (mg mb : Str → Option Value) (fa : Addr) (o : Obj) (pm cd doc : Value) (a : Addr) (vs : List Value) (ns : List Int),
      Ground q loose [] XP w s₀ mg mb s₁.heap → YP w s₁.heap →
      s₁.heap.get? fa = some o → o.data = .func (docDef d.name d.params d.body d.scope pm cd doc) → s₁.heap.CodeRec cd d.name → mg d.name = some (.ref fa) →
      s₁.heap.get? a = some { cls := .type "list", data := .seq vs.toArray } → IntsAre vs ns → ns.length ≤ n → s₁.gens = #[] →
      codeAny (model l.prog w) callerA (.call (.ref fa) ⟨[.ref a], []⟩) (fun r s' => r = .ok (.ret (.bool true)) ∧ OldK s₁.heap s'.heap ∧ s'.os = s₁.os ∧ AllBare s'.gens) s₁) :
    WalkO q loose XP YP l.row.toRowW d [] (fun f vs => PySem.call f vs) := by
  intro w s₀ s₁ mg mb G Y fa o pm cd doc dV kV ho hd hcd hD hmg hg args vals as hpre hlay hrd hwl hlo
  obtain rfl : dV = .none := Dflts.none hD hdf
  obtain rfl : kV = .none := Dflts.noKw hD
  obtain ⟨a, vs, ns, rfl, rfl, hobj, hints, hlen⟩ := script_of hn hpre hwl
  refine enter_call (codeAny_mono (call w s₀ s₁ mg mb fa o pm cd doc a vs ns G Y ho (fd_plain hd) hcd hmg hobj hints hlen hg) fun r s' hq => ?_)
  obtain ⟨rfl, h2, h3, h4⟩ := hq
  exact ⟨.inl ⟨.bool true, .bool true, [], rfl, fun _ => rfl, .bool true, post_true l _, fun _ => ⟨List.Pairwise.nil, fun _ hm => (nomatch hm)⟩⟩, h2, h3, h4⟩

/-- the same where the top left finished generators (o_head chose holds_openN): nothing may have changed at all and no generator may be left -/
theorem attachN {l : OpenLaw} {n : Nat} {q : Program} {loose : List Str} {XP : (Str → Option Value) → Heap → Prop} {YP : World → Heap → Prop} {d : DefRec} {x : Str}
    (hn : l.most = some n) (hdf : d.params.defaults = [])
    (hbind : ∀ pm cd doc v : Value, bindArgs (docDef d.name d.params d.body d.scope pm cd doc) ⟨[v], []⟩ = pure [(x, v)])
    (hx : d.scope.names.lookup x = some .local ∨ d.scope.names.lookup x = some .cell)
    (hk : d.scope.kind = .function) (hco : d.scope.isCoroutine = false) (hgen : d.scope.isGenerator = false)
    (body : ∀ (w : World) (s₀ s₁ s : Shared) (mg mb : Str → Option Value) (fa : Addr) (o : Obj) (pm cd doc : Value) (a : Addr) (vs : List Value) (ns : List Int),
      Ground q loose [] XP w s₀ mg mb s₁.heap → YP w s₁.heap →
      s₁.heap.get? fa = some o → o.data = .func (docDef d.name d.params d.body d.scope pm cd doc) → s₁.heap.CodeRec cd d.name → mg d.name = some (.ref fa) →
      s₁.heap.get? a = some { cls := .type "list", data := .seq vs.toArray } → IntsAre vs ns → ns.length ≤ n →
      s.gens = #[] → s.os = s₁.os →
      Fr s₁.heap s₁.heap.objs.size s.heap (bindL (envOfC d.name d.scope s₁.heap.objs.size fa cd).kindOf [(x, .ref a)] fun _ => none) →
      Cl s₁.heap.objs.size (cellsFrom (s₁.heap.objs.size + 1) d.scope.names []) s.heap (bindC (envOfC d.name d.scope s₁.heap.objs.size fa cd).kindOf [(x, .ref a)] fun _ => none) →
      wpAny (model l.prog w) (callerA.deeper (envOfC d.name d.scope s₁.heap.objs.size fa cd)) (execs d.body (envOfC d.name d.scope s₁.heap.objs.size fa cd))
        (fun f s' => f = .ret (.bool true) ∧ (∀ b o, s₁.heap.get? b = some o → s'.heap.get? b = some o) ∧ s'.os = s₁.os ∧ s'.gens = #[]) (fun _ _ => False) s) :
    WalkN q loose XP YP l.row.toRowW d [] (fun f vs => PySem.call f vs) := by
  intro w s₀ s₁ mg mb G Y fa o pm cd doc dV kV ho hd hcd hD hmg hg args vals as hpre hlay hrd hwl hlo
  obtain rfl : dV = .none := Dflts.none hD hdf
  obtain rfl : kV = .none := Dflts.noKw hD
  obtain ⟨a, vs, ns, rfl, rfl, hobj, hints, hlen⟩ := script_of hn hpre hwl
  refine enter_callW ?_
  refine call_cells_ret (o := o) (by rw [depth_caller]; decide) ho (fd_plain hd) G.T.nolimit hcd (hbind pm cd doc (.ref a)) (fun y hy => ?_) (fun h₁ tk F X => ?_) hco hgen hk
  · obtain rfl : y = (x, Value.ref a) := List.mem_singleton.mp hy
    rcases hx with e | e
    · exact .inl e
    · exact .inr ⟨e, cellsFrom_some _ _ _ (.inl e)⟩
  · refine wpAny_mono (body w s₀ s₁ { s₁ with heap := h₁, toks := tk } mg mb fa o pm cd doc a vs ns G Y ho (fd_plain hd) hcd hmg hobj hints hlen hg rfl F X) (fun f s' hq => ?_) (fun _ _ hq => hq)
    obtain ⟨rfl, h2, h3, h4⟩ := hq
    exact ⟨.inl ⟨.bool true, .bool true, [], rfl, fun _ => rfl, .bool true, post_true l _, fun _ => ⟨List.Pairwise.nil, fun _ hm => (nomatch hm)⟩⟩, h2, h3, h4⟩

/-! ### rules over ANY heap (no ledger) from facts about the written part K: the library's own take a ledger (News) for what they write -/
section
variable {prog : Program} {w : World} {A : Around} {E : Value → Shared → Prop} {s : Shared} {K : Frag}

/-- a def of the module, or a method (qual 'C.m'), entered: the frame is the next address; cells behind it -/
theorem call_fn {R : Result → Shared → Prop} {name qual : Str} {params : Arguments} {body : List Stmt} {scope : Scope} {dV kV doc pm cdv ct oc : Value} {an od : Option Addr} {osl : Array (Option Value)} {f : Addr} {args : Args} {binds : List (Str × Value)}
    (X : K.In s.heap) (hlim : s.heap.NoLimit) (ho : K.lookup f = some ⟨oc, od, .func (fnOf name qual params body scope dV kV doc pm an cdv ct), osl⟩) (hcd : codeIn K cdv qual = true) (hroom : A.depth < recursionLimit)
    (hbind : BindsTo s (fnOf name qual params body scope dV kV doc pm an cdv ct) args binds)
    (hkind : (binds.all fun y => scope.names.lookup y.1 == some .local || scope.names.lookup y.1 == some .cell) = true)
    (h : ∀ s₁, InCallC s s.heap.objs.size (bindL (envOfC qual scope s.heap.objs.size f cdv).kindOf binds fun _ => none) (cellsFrom (s.heap.objs.size + 1) scope.names [])
        (bindC (envOfC qual scope s.heap.objs.size f cdv).kindOf binds fun _ => none) s₁ →
      wpAny (model prog w) (A.deeper (envOfC qual scope s.heap.objs.size f cdv)) (execs body (envOfC qual scope s.heap.objs.size f cdv))
        (fun fl s' => R (.ok (.ret (match fl with | .ret v => v | _ => .none))) s')
        (fun e s' => wpAny (model prog w) (A.deeper (envOfC qual scope s.heap.objs.size f cdv)) (leaving (envOfC qual scope s.heap.objs.size f cdv) e) (fun _ s'' => R (.error e) s'') (fun e' s'' => R (.error e') s'') s') s₁)
    (hco : scope.isCoroutine = false) (hgen : scope.isGenerator = false) (hk : scope.kind = .function) : codeAny (model prog w) A (.call (.ref f) args) R s := by
  refine codeAny_call_function hroom (X _ _ ho) rfl hco hgen rfl (codeRec_of X hcd) (hbind _ _ _ _ ?_)
  refine wpAny_newFunctionEnv_cells hk (kindsX hkind _) fun env he s₁ x => ?_
  subst he
  exact ⟨hlim.keeps x.toInCall.keep, codeAny_func (h s₁ x)⟩

/-- C(..): dict at size, instance at size + 1, then __init__ -/
theorem make_obj {R : Result → Shared → Prop} {C fI : Addr} {rest : List Value} {kw : List (Str × Value)}
    (X : K.In s.heap) (hm : makesIn K C = true) (hi : findIn K (.ref C) "__init__" = some (some (.ref fI))) (hf : isFn K (.ref fI) = true)
    (h : codeAny (model prog w) (A.under (.builtin "type.__call__" ⟨.ref C :: rest, kw⟩)) (.call (.ref fI) ⟨.ref (s.heap.objs.size + 1) :: rest, kw⟩) (InitBack (s.heap.objs.size + 1) R)
      { s with heap := (s.heap.push emptyDict).push (instObj C s.heap.objs.size) }) : codeAny (model prog w) A (.call (.ref C) ⟨rest, kw⟩) R s := by
  obtain ⟨hh, g, d, t, os⟩ := s
  exact make_core (makes_of X hm) (looks_findIn X hi) (fun self => bind_fn X self (beq_iff_eq.mp hf)) (.inl rfl) h

/-- x.name where the instance's dict holds the name and the class does not -/
theorem get_field {x C : Addr} {ox : Obj} {es : List DictEntry} {n : Nat} {name : Str} {expr : Bool} {v : Value} {Q : Value → Shared → Prop}
    (X : K.In s.heap) (I : PySem.W.InstAt s.heap x ox C (some (dictOf es n))) (hg : plainGet K C name = true) (hh : hasDictIn K C = true) (ha : findIn K (.ref C) name = some none)
    (hl : getL name es = some (some v)) (hv : handedIn v = true) (h : Q v { s with toks := s.toks + 1 }) : wpAny (model prog w) A (getAttr (.ref x) name expr) Q E s :=
  get_value X I (plainGet_of hg).1 (findObj_own hh ha rfl hl) hv h

/-- x.m(..): the method found in the class -/
theorem get_method {x C f : Addr} {ox : Obj} {es : List DictEntry} {n : Nat} {name : Str} {pl : Sem Bool} {Q : Value × List Value → Shared → Prop}
    (X : K.In s.heap) (I : PySem.W.InstAt s.heap x ox C (some (dictOf es n))) (hg : plainGet K C name = true) (hf : findIn K (.ref C) name = some (some (.ref f))) (ht : isFn K (.ref f) = true)
    (hl : getL name es = some none) (h : Q (.ref f, [.ref x]) s) : wpAny (model prog w) A (getMethod (.ref x) name pl) Q E s :=
  method_fn X I (plainGet_of hg).1 (plainGet_of hg).2 hf (beq_iff_eq.mp ht) (by show (lookIn name (dictOf es n)).map _ = _; rw [lookIn_dict, hl]; rfl) h

/-! the whole heap as the ledger: makes every rule that writes through a ledger a rule over any heap -/
def noObjs (h : Heap) : Heap := { h with objs := #[] }
theorem noObjs_get (h : Heap) (b : Addr) : (noObjs h).get? b = none := by
  cases e : (noObjs h).get? b with
  | none => rfl
  | some o => exact absurd (Heap.lt_size e) (Nat.not_lt_zero _)
def ledger (h : Heap) (L d : Addr) : List (Addr × Obj) := (List.range h.objs.size).filterMap fun a => if a = L ∨ a = d then none else (h.get? a).map fun o => (a, o)
theorem mem_ledger {h : Heap} {L d a : Addr} {o : Obj} : (a, o) ∈ ledger h L d ↔ a ≠ L ∧ a ≠ d ∧ h.get? a = some o := by
  unfold ledger
  rw [List.mem_filterMap]
  constructor
  · rintro ⟨b, _, e⟩
    split at e
    · cases e
    · rename_i hb
      obtain ⟨o', ho, e'⟩ := Option.map_eq_some_iff.mp e
      cases e'
      exact ⟨fun q => hb (.inl q), fun q => hb (.inr q), ho⟩
  · rintro ⟨n1, n2, ho⟩
    refine ⟨a, List.mem_range.mpr (Heap.lt_size ho), ?_⟩
    rw [if_neg (show ¬ (a = L ∨ a = d) from fun q => q.elim n1 n2), ho] <;> rfl
theorem news_ledger {h : Heap} {L d : Addr} {od : Obj} (hne : d ≠ L) (ho : h.get? d = some od) : News (noObjs h) L h ([] ++ (d, od) :: ledger h L d) := by
  rintro ⟨a, o⟩ hp
  rcases List.mem_cons.mp hp with e | hp
  · cases e
    exact ⟨ho, hne, noObjs_get _ _⟩
  · obtain ⟨n1, n2, e⟩ := mem_ledger.mp hp
    exact ⟨e, n1, noObjs_get _ _⟩
theorem fr_all {h : Heap} {L : Addr} {m : Str → Option Value} (n : h.Ns L m) : Fr (noObjs h) L h m :=
  ⟨n, fun b o e => (by rw [noObjs_get] at e; cases e), Nat.zero_le _⟩
/-- Upd of the head entry (for append_K, setItem_K ..) -/
theorem upd_ledger {h : Heap} {L d : Addr} {o o' : Obj} : Upd d o o' ((d, o) :: ledger h L d) ((d, o') :: ledger h L d) :=
  .head fun ⟨_, _⟩ hp => (mem_ledger.mp hp).2.1

/-- x.name = v over any heap: L is any namespace of the heap (the frame's, say): its map stays, its object is not told; all else but the dict stays -/
theorem set_field {x C dx L : Addr} {ox : Obj} {m : Str → Option Value} {es es' : List DictEntry} {n n' : Nat} {name : Str} {v : Value} {Q : Unit → Shared → Prop}
    (X : K.In s.heap) (I : PySem.W.InstAt s.heap x ox C (some (dictOf es n))) (hd : ox.dict = some dx) (hL : s.heap.Ns L m) (hne : dx ≠ L)
    (hs : findIn K (.ref C) "__setattr__" = some (some (.builtin "object.__setattr__"))) (hp : plainOver K C = true) (ht : takerIn K C name = some none) (hh : hasDictIn K C = true) (hl : (getL name es).isSome = true)
    (e : (putL name (PyData.keyHash w.params name) (.str name (s.toks + 1)) v es, putN name es n) = (es', n')) (hz : es'.length ≤ 1000)
    (h : ∀ h' : Heap, h'.Ns L m → h'.get? dx = some (dictOf es' n') → (∀ b o, b ≠ dx → b ≠ L → s.heap.get? b = some o → h'.get? b = some o) → Q () { s with heap := h', toks := s.toks + 2 }) :
    wpAny (model prog w) A (setAttr (.ref x) name v) Q E s := by
  obtain ⟨e1, e2⟩ := Prod.mk.inj e
  have hdx : s.heap.get? dx = some (dictOf es n) := by
    have := I.dict
    rw [hd] at this
    exact this
  refine set_plain X I hs (osa_dict (s := { s with toks := s.toks + 1 }) (h₀ := noObjs s.heap) (L := L) (m := m) (od := dictOf es n) (od' := dictOf es' n') (es := es') (n := n') (pre := []) (post := ledger s.heap L dx)
    (fr_all hL) (news_ledger hne hdx) X I hd hp ht hh hl (fun _ q => nomatch q) (fun ⟨_, _⟩ q => (mem_ledger.mp q).2.1) (by rw [putName_dict, e1, e2]) rfl hz fun h' F' N' => ?_)
  exact h h' F'.ns (N'.get (List.Mem.head _)) fun b o n1 n2 ho => N'.get (List.Mem.tail _ (mem_ledger.mpr ⟨n2, n1, ho⟩))
end
end Att

namespace L2
open PySem PySem.Spec PyProof.Rows

theorem vals_ints : ∀ {vs : List Value} {ns : List Int}, IntsAre vs ns → Vals (ns.map V.int) vs
  | _, _, .nil => .nil
  | _, _, .cons n t h => .cons ⟨t, rfl⟩ (vals_ints h)

/-- nothing is tracked but the script, known to the object (or it is an object of the module) -/
def Only (H : Hp) : Prop := ∀ b, H b = none ∨ ∃ o xs, H b = some (.frz o (.lst xs))

/-- THE HEAD: the law's promise, at the heap behind the top. F, the promise of the law's def, may use that base is part of the heap (so K.In base, base.Ns mainGlobals mg stand in Mod) -/
theorem law_call {P : Program} {w : World} {K : PySem.W.Frag} {mg mb : Str → Option Value} {CX : CXT} {k : Nat} {fa a : Addr} {fd : FuncData} {x : Str} {sp : Sp} {s₁ : Shared} {vs : List Value} {ns : List Int}
    (KX : K.In s₁.heap) (hns : s₁.heap.Ns mainGlobals mg) (hb : s₁.heap.Ns builtinsNs mb) (hbb : ∀ x : Str, x ≠ "__name__" → mb x = bootBuiltins x) (hlim : s₁.heap.NoLimit) (hg : s₁.gens = #[])
    (ha : s₁.heap.get? a = some { cls := .type "list", data := .seq vs.toArray }) (hi : IntsAre vs ns) (hl : ns.length ≤ sizeLine) (hr : Room k callerA)
    (F : ∀ base : Heap, K.In base → base.Ns mainGlobals mg → FnOk P w K mg base CX k fa fd [x] sp) (hbind : ∀ (s : Shared) (u : Value), BindsTo s fd ⟨[u], []⟩ [(x, u)])
    (hsp : ∀ H : Hp, Only H → SqL K H a (ns.map V.int) → sp [.ref a] H (fun v _ => v = .bl true) fun _ _ _ => False)
    (hCX : ∀ H e s', CX [] H s₁ (fun _ _ _ => False) e s' → False) :
    codeAny (model P w) callerA (.call (.ref fa) ⟨[.ref a], []⟩) (fun r s' => r = .ok (.ret (.bool true)) ∧ OldK s₁.heap s'.heap ∧ s'.os = s₁.os ∧ AllBare s'.gens) s₁ := by
  have rv := vals_ints hi
  have lenV := hi.length
  -- from an abstract heap in which nothing but the script may be tracked
  have core : ∀ H : Hp, Only H → SqL K H a (ns.map V.int) → HOk P w H s₁.heap → (∀ b, H b ≠ none → b = a) → (H a ≠ none → K.lookup a = none) →
      codeAny (model P w) callerA (.call (.ref fa) ⟨[.ref a], []⟩) (fun r s' => r = .ok (.ret (.bool true)) ∧ OldK s₁.heap s'.heap ∧ s'.os = s₁.os ∧ AllBare s'.gens) s₁ := by
    intro H hO hS hok hA hK
    have base_of : ∀ {b : Addr} {o : Obj}, s₁.heap.get? b = some o → H b = none → (hidT s₁.heap H).get? b = some o := fun e n => hidT_get e n
    have noA : ∀ {b : Addr} {o : Obj} {es : Array DictEntry} {ep : Nat}, s₁.heap.get? b = some o → o.data = .dict es ep → H b = none := fun {b o es ep} e d => by
      cases q : H b with
      | none => rfl
      | some u =>
        have e' : b = a := hA b (by rw [q]; simp)
        subst e'
        rw [ha] at e; cases e
        have d' : Data.seq vs.toArray _ = Data.dict es ep := d
        cases d'
    have nsK : ∀ {b : Addr} {m : Str → Option Value}, s₁.heap.Ns b m → (hidT s₁.heap H).Ns b m := fun {b m} ⟨o, es, ep, e, d, r⟩ => ⟨o, es, ep, base_of e (noA e d), d, r⟩
    have hKb : K.In (hidT s₁.heap H) := fun b o e => base_of (KX b o e) (by
      cases q : H b with
      | none => rfl
      | some u =>
        have e' : b = a := hA b (by rw [q]; simp)
        subst e'
        rw [hK (by rw [q]; simp)] at e; cases e)
    have hM : Mod K mg (hidT s₁.heap H) := ⟨hKb, nsK hns, ⟨mb, nsK hb, hbb⟩, let ⟨mc, h1, h2⟩ := hlim; ⟨mc, nsK h1, h2⟩⟩
    have e0 : Env0 P w K mg (hidT s₁.heap H) callerA [] s₁ H := ⟨rfl, hM, fun b o e => of_hidT e, Nat.le_of_eq (hidT_size _ _), trivial, fun b hb => absurd (show b ∈ ([] : List Addr) from hb) (by simp), hok, .of_eq hg⟩
    refine codeAny_mono ((F _ hKb (nsK hns)).run callerA [] s₁ H ⟨[.ref a], []⟩ [.ref a] [.ref a] _ _ hr e0 (hbind s₁ (.ref a)) (.cons rfl .nil) (hsp H hO hS)) fun r s' h => ?_
    cases r with
    | error e => exact (hCX H e s' h).elim
    | ok fl =>
      cases fl with
      | next => exact False.elim h
      | brk => exact False.elim h
      | cont => exact False.elim h
      | ret u =>
        obtain ⟨v, H', os, bare, un, hok', r', q⟩ := h
        have q' : v = .bl true := q
        subst q'
        obtain rfl : u = Value.bool true := r'
        refine ⟨rfl, OldK.of_keep fun b o e => ?_, os, bare⟩
        cases q : H b with
        | none => exact un.keep b o e q (by intro z; exact absurd (show b ∈ ([] : List Addr) from z) (by simp)) (by simp)
        | some u =>
          rcases hO b with z | ⟨ob, xs, z⟩
          · rw [q] at z; cases z
          · have z2 := un.frzs b ob _ z
            obtain ⟨e1, _⟩ := hok b _ z
            obtain ⟨e2, _⟩ := hok' b _ z2
            rw [e] at e1; cases e1
            exact e2
  cases hk : K.lookup a with
  | some o =>
    -- the script is one of the module's own objects
    have e := KX a o hk
    rw [ha] at e
    cases e
    refine core (fun _ => none) (fun _ => .inl rfl) (.inr ⟨_, vs.toArray, _, hk, rfl, rfl, rfl, by rw [List.size_toArray, lenV]; exact hl, by simpa using rv⟩) (fun b u z => by have z' : (none : Option HO) = some u := z; cases z') (fun b z => absurd rfl z) fun z => absurd rfl z
  | none =>
    refine core (fun b => if b = a then some (.frz { cls := .type "list", data := .seq vs.toArray } (.lst (ns.map V.int))) else none) (fun b => ?_) (.inl (.inr ⟨{ cls := .type "list", data := .seq vs.toArray }, if_pos rfl⟩)) (fun b u z => ?_) (fun b z => ?_) fun _ => hk
    · by_cases hb : b = a
      · exact .inr ⟨_, _, if_pos hb⟩
      · exact .inl (if_neg hb)
    · by_cases hb : b = a
      · have z' := (if_pos hb).symm.trans z
        cases z'
        subst hb
        exact ⟨ha, by rw [List.length_map]; exact hl, vs, _, rv, ha⟩
      · have z' := (if_neg hb).symm.trans z
        cases z'
    · by_cases hb : b = a
      · exact hb
      · exact absurd (if_neg hb) z
end L2

namespace L2
open PySem PySem.Spec PyProof.Rows

abbrev KOf {K : PySem.W.Frag} {h : Heap} (_ : K.In h) : PySem.W.Frag := K

/-- the goal that k_head leaves (case hc), from the law's promise. F gives the function object fd (K's own) once, then the promise over every base -/
theorem walk_of {l : PySem.W.OpenLaw} {n k : Nat} {q : Program} {loose : List Str} {XP : (Str → Option Value) → Heap → Prop} {YP : World → Heap → Prop} {d : DefRec} {K : Params → PySem.W.Frag} {CX : World → CXT} {sp : World → Sp} {x : Str}
    (hn : l.most = some n) (hn2 : n ≤ sizeLine) (hdf : d.params.defaults = []) (hr : Room k callerA)
    (hY : ∀ (w : World) (h : Heap), YP w h → (K w.params).In h)
    (F : ∀ (w : World) (mg : Str → Option Value) (fa : Addr) (h : Heap), (K w.params).In h → h.Ns mainGlobals mg → mg d.name = some (.ref fa) →
      ∃ fd : FuncData, (∀ (s : Shared) (u : Value), BindsTo s fd ⟨[u], []⟩ [(x, u)]) ∧
        ∀ base : Heap, (K w.params).In base → base.Ns mainGlobals mg → FnOk l.prog w (K w.params) mg base (CX w) k fa fd [x] (sp w))
    (hsp : ∀ (w : World) (H : Hp) (a : Addr) (ns : List Int), ns.length ≤ n → Only H → SqL (K w.params) H a (ns.map V.int) → sp w [.ref a] H (fun v _ => v = .bl true) fun _ _ _ => False)
    (hCX : ∀ (w : World) (H : Hp) (s : Shared) (e : Value) (s' : Shared), CX w [] H s (fun _ _ _ => False) e s' → False) :
    PySem.W.WalkO q loose XP YP l.row.toRowW d [] (fun f vs => PySem.call f vs) := by
  refine Att.attach_call hn hdf fun w s₀ s₁ mg mb fa o pm cd doc a vs ns G Y ho hd hcd hmg hobj hints hlen hg => ?_
  have KX := hY w _ Y
  obtain ⟨fd, hb, hF⟩ := F w mg fa _ KX G.T.g hmg
  exact law_call KX G.T.g G.T.b G.T.builtins G.T.nolimit hg hobj hints (Nat.le_trans hlen hn2) hr hF hb (fun H hO hS => hsp w H a ns hlen hO hS) fun H e s' => hCX w H s₁ e s'
/-- the same where the promise hangs on the written part alone: (sp := My.sp_law), no hole under a binder -/
theorem walk_ofK {l : PySem.W.OpenLaw} {n k : Nat} {q : Program} {loose : List Str} {XP : (Str → Option Value) → Heap → Prop} {YP : World → Heap → Prop} {d : DefRec} {K : Params → PySem.W.Frag} {CX : CXT} {sp : PySem.W.Frag → Sp} {x : Str}
    (hn : l.most = some n) (hn2 : n ≤ sizeLine) (hdf : d.params.defaults = []) (hr : Room k callerA)
    (hY : ∀ (w : World) (h : Heap), YP w h → (K w.params).In h)
    (F : ∀ (w : World) (mg : Str → Option Value) (fa : Addr) (h : Heap), (K w.params).In h → h.Ns mainGlobals mg → mg d.name = some (.ref fa) →
      ∃ fd : FuncData, (∀ (s : Shared) (u : Value), BindsTo s fd ⟨[u], []⟩ [(x, u)]) ∧
        ∀ base : Heap, (K w.params).In base → base.Ns mainGlobals mg → FnOk l.prog w (K w.params) mg base CX k fa fd [x] (sp (K w.params)))
    (hsp : ∀ (K : PySem.W.Frag) (H : Hp) (a : Addr) (ns : List Int), ns.length ≤ n → Only H → SqL K H a (ns.map V.int) → sp K [.ref a] H (fun v _ => v = .bl true) fun _ _ _ => False)
    (hCX : ∀ (H : Hp) (s : Shared) (e : Value) (s' : Shared), CX [] H s (fun _ _ _ => False) e s' → False) :
    PySem.W.WalkO q loose XP YP l.row.toRowW d [] (fun f vs => PySem.call f vs) :=
  walk_of (K := K) (CX := fun _ => CX) (sp := fun w => sp (K w.params)) hn hn2 hdf hr hY F (fun w H a ns h1 h2 h3 => hsp (K w.params) H a ns h1 h2 h3) fun _ H s e s' => hCX H s e s'
end L2

/- THE LAST THEOREM (shape; LID, My.* are yours):
   My.Adr: a structure of the addresses that your layer names (classes, functions); My.Txt K t: a structure (Prop) of the equations over K;
   My.txt_mk : {K} {implicit addresses ..} (e1 : nsIn K mainGlobals "law" = some (some (.ref f))) (e2 : K.lookup f = some ⟨oc, od, .func (fnOf "law" "law" params body scope dV kV doc pm an cdv ct), sl⟩) (e3 : codeIn K cdv "law" = true) .. : ∃ t, My.Txt K t

set_option maxRecDepth 100000 in
set_option maxHeartbeats 0 in
theorem PySem.Challenge.cw_LID_holds : PySem.Challenge.rw_LID.Holds := by
  w_on; o_law; k_head; (case hw => w_witness2)
  k_fill
  refine L2.walk_of (l := PySem.Challenge.rw_LID) (n := 63) (k := 40) (x := "script") (CX := fun w => ..) (sp := fun _ => My.sp_law) rfl (by decide) rfl ⟨rfl, by decide, by decide⟩ (fun w h Y => PySem.W.kIn_of Y) ?F ?S ?C
  case F =>
    intro w mg fa h KX G hmg
    have T : ∃ t, My.Txt (L2.KOf KX) t := by
      dsimp only [L2.KOf]                          -- K must stand as «<heap const> w.params» for k_is
      refine' My.txt_mk ?e1 ?e2 ?e3 ..
      (case e1 => PySem.W.k_is)                    -- in the order: a name -> its address -> its object -> its parts
      (case e2 => PySem.W.k_is)
      ..
    obtain ⟨t, T⟩ := T
    have e0 := hmg.symm.trans (PySem.W.mg_of KX G T.law)
    cases e0                                       -- fa is the law's own address
    exact ⟨_, fun s u => .of_eq rfl, fun base kb nb => My.law_fn T kb nb⟩     -- if «.of_eq rfl» comes too early: refine' ⟨_, ?b, fun base kb nb => My.law_fn T kb nb⟩; exact fun s u => .of_eq rfl
  case S => exact fun w H a ns hl hO hS => ..
  case C => exact ..
(the tactic k_is has no namespace: write k_is) -/

/-! SHORT WORDS over the layer: a def of the text, its body, what a loop and a test want. -/
namespace L2
open PySem PySem.Spec PyProof.Rows

/-! ### the text by places -/
/-- the j-th statement of a class's body -/
def inClass (s : Stmt) (j : Nat) : Stmt := match s with
  | .ClassDef _ _ _ body _ _ _ _ _ _ _ => body.getD j (.Pass ⟨0, 0, 0, 0⟩)
  | _ => .Pass ⟨0, 0, 0, 0⟩
def defArgs (s : Stmt) : Arguments := match s with
  | .FunctionDef _ a _ _ _ _ _ _ _ _ => a
  | _ => { posonlyargs := [], args := [], vararg := none, kwonlyargs := [], kw_defaults := [], kwarg := none, defaults := [] }
def defBody (s : Stmt) : List Stmt := match s with
  | .FunctionDef _ _ b _ _ _ _ _ _ _ => b
  | _ => []
def defScope (s : Stmt) : Scope := match s with
  | .FunctionDef _ _ _ _ _ _ sc _ _ _ => sc
  | _ => { kind := .function, names := [], isGenerator := false, isCoroutine := false }

/-! ### no exception leaves a def -/
abbrev CX0 : CXT := fun _ _ _ _ _ _ => False
abbrev E0 : XK := fun _ _ _ => False
theorem pass0 {X : Cx} : Passes CX0 X E0 := fun _ _ _ _ _ _ _ h => h.elim

/-! ### a def (or method) of the text as it stands behind the top -/
structure Fun (K : PySem.W.Frag) (x qual : Str) (st : Stmt) (f : Addr) (fd : FuncData) : Prop where
  ex : ∃ (oc : Value) (od : Option Addr) (kV doc pm : Value) (an : Option Addr) (cdv ct : Value) (osl : Array (Option Value)),
    fd = PySem.W.fnOf x qual (defArgs st) (defBody st) (defScope st) .none kV doc pm an cdv ct ∧ K.lookup f = some ⟨oc, od, .func fd, osl⟩ ∧ PySem.W.codeIn K cdv qual = true
  kp : PySem.W.keepIn K (.ref f) = true
section
variable {P : Program} {w : World} {K : PySem.W.Frag} {mg : Str → Option Value} {base : Heap}
/-- THE RULE for a def: its body as a term of rules, and the reading of that term -/
theorem Fun.ok {x qual : Str} {st : Stmt} {f : Addr} {fd : FuncData} {N ps : List Str} {k : Nat} {sp : Sp} (F : Fun K x qual st f fd) (S : FnScope N ps (defScope st)) (len : ∀ vs H Q E, sp vs H Q E → vs.length = ps.length)
    (hbody : ∀ (cdv : Value) (A : Around) (outer : List Env) (s : Shared) (H : Hp) (vs : List V) (Q : VK) (E : XK), Room k (A.deeper (envOfC qual (defScope st) s.heap.objs.size f cdv)) → sp vs H Q E →
      ∃ t, PSs (cxOf CX0 P w K mg base N qual (defScope st) f cdv A outer s H E).nox (defBody st) t ∧ t { nx := fun _ H' => Q .non H', rt := Q } (start N vs) H) : FnOk P w K mg base CX0 (k + 1) f fd ps sp := by
  obtain ⟨oc, od, kV, doc, pm, an, cdv, ct, osl, rfl, lk, hcd⟩ := F.ex
  refine fn_of lk hcd S len fun A outer s H vs Q E hr hsp => ?_
  obtain ⟨t, h, q⟩ := hbody cdv A outer s H vs Q E hr hsp
  exact ⟨t, h.nox, q⟩
/-- how its arguments bind (no defaults): h is «fun _ _ _ _ _ _ us hl => match us, hl with | [_, _], _ => rfl», one _ a parameter -/
theorem Fun.binds {x qual : Str} {st : Stmt} {f : Addr} {fd : FuncData} {ps : List Str} (F : Fun K x qual st f fd)
    (h : ∀ (kV doc pm : Value) (an : Option Addr) (cdv ct : Value) (us : List Value), us.length = ps.length → bindArgs (PySem.W.fnOf x qual (defArgs st) (defBody st) (defScope st) .none kV doc pm an cdv ct) ⟨us, []⟩ = pure (ps.zip us)) : Binds K fd ps [] := by
  obtain ⟨oc, od, kV, doc, pm, an, cdv, ct, osl, rfl, lk, hcd⟩ := F.ex
  exact .all (h kV doc pm an cdv ct)
theorem fun_mk {x qual : Str} {st : Stmt} {f : Addr} {oc : Value} {od an : Option Addr} {osl : Array (Option Value)} {kV doc pm cdv ct : Value} (l : K.lookup f = some ⟨oc, od, .func (PySem.W.fnOf x qual (defArgs st) (defBody st) (defScope st) .none kV doc pm an cdv ct), osl⟩)
    (c : PySem.W.codeIn K cdv qual = true) (k : PySem.W.keepIn K (.ref f) = true) : Fun K x qual st f (PySem.W.fnOf x qual (defArgs st) (defBody st) (defScope st) .none kV doc pm an cdv ct) := ⟨⟨oc, od, kV, doc, pm, an, cdv, ct, osl, rfl, l, c⟩, k⟩
end
theorem hu_of {A : Around} {k : Nat} (hr : Room k A) : A.units + 1 < cLine := Nat.lt_of_le_of_lt (Nat.add_le_add_left (by decide : 1 ≤ 64) _) hr.units
theorem small1000 {n : Nat} (h : n ≤ 1000) : n < sizeLine := Nat.lt_of_le_of_lt h (by decide)

/-! ### expressions in short: the name that stands in the i-th slot -/
section
variable {X : Cx}
theorem pv (i : Nat) {x : Str} {pos : Pos} (hN : X.N[i]? = some x := by rfl) (hv : Vis X.env.scope x := by first | exact Or.inl rfl | exact Or.inr (Or.inl rfl) | exact Or.inr (Or.inr rfl)) (hd : (x == ("__debug__" : Str)) = false := by decide)
    (hcd : (x == ("__classdict__" : Str)) = false := by decide) : PE X (.Name x pos) (tVar i) := pe_var hN hv hd hcd
end

/-! ### tests -/
theorem iteF {A B : Prop} (h : B) : if false = true then A else B := by
  rw [if_neg Bool.false_ne_true]
  exact h
theorem iteT {A B : Prop} (h : A) : if true = true then A else B := by
  rw [if_pos rfl]
  exact h
theorem ite2 {c A B : Prop} [Decidable c] (h1 : c → A) (h2 : ¬ c → B) : if c then A else B := by
  by_cases h : c
  · rw [if_pos h]
    exact h1 h
  · rw [if_neg h]
    exact h2 h
theorem iteNS {c A B : Prop} [Decidable c] (hc : c) (h : B) : if (!decide c) = true then A else B := by
  rw [decide_eq_true hc]
  exact iteF h

/-! ### heaps -/
/-- all that was tracked is as it was -/
def Same (H H' : Hp) : Prop := ∀ b o, H b = some o → H' b = some o
theorem Same.refl (H : Hp) : Same H H := fun _ _ h => h
theorem Same.trans {H H1 H2 : Hp} (a : Same H H1) (b : Same H1 H2) : Same H H2 := fun c o h => b c o (a c o h)
theorem Same.free {H H' : Hp} (e : Same H H') {l : Addr} (h : H' l = Option.none) : H l = Option.none := by
  cases q : H l with
  | none => rfl
  | some o =>
    rw [e l o q] at h
    cases h
theorem Same.seq {K : PySem.W.Frag} {H H' : Hp} {a : Addr} {xs : List V} (e : Same H H') (h : SqL K H a xs) : SqL K H' a xs := by
  rcases h with (h | ⟨o, h⟩) | h
  · exact .inl (.inl (e _ _ h))
  · exact .inl (.inr ⟨o, e _ _ h⟩)
  · exact .inr h

end L2
set_option Elab.async false
set_option linter.all false
set_option maxRecDepth 100000
set_option maxHeartbeats 1000000
/-! Data without addresses, over the hand layer: what a value is (Dat), what a heap says of it (Rep), objects that the code at hand may change (Gs) -/
namespace TF
open PySem PySem.Spec L2
open PyProof.Rows hiding St RelV

inductive Dat where
  | non | bl (b : Bool) | int (i : Int) | str (x : Str) | fn (a : Addr) | scr (ns : List Int) | tup (l : List Dat) | lst (l : List Dat)

mutual
def Rep (K : PySem.W.Frag) (H : Hp) : Dat → V → Prop
  | .non, v => v = .non
  | .bl b, v => v = .bl b
  | .int i, v => v = .int i
  | .str x, v => v = .str x
  | .fn a, v => v = .ref a
  | .scr ns, v => ∃ a, v = .ref a ∧ SqL K H a (ns.map V.int)
  | .tup l, v => ∃ a vs, v = .ref a ∧ SqT K H a vs ∧ RepL K H l vs
  | .lst l, v => ∃ a vs, v = .ref a ∧ H a = some (.lst vs) ∧ RepL K H l vs
def RepL (K : PySem.W.Frag) (H : Hp) : List Dat → List V → Prop
  | [], vs => vs = []
  | d :: ds, vs => ∃ v r, vs = v :: r ∧ Rep K H d v ∧ RepL K H ds r
end

theorem sqT_same {K : PySem.W.Frag} {H H' : Hp} {a : Addr} {xs : List V} (e : Same H H') (h : SqT K H a xs) : SqT K H' a xs := by
  rcases h with (h | ⟨o, h⟩) | h
  · exact .inl (.inl (e _ _ h))
  · exact .inl (.inr ⟨o, e _ _ h⟩)
  · exact .inr h

mutual
theorem Rep.same {K : PySem.W.Frag} {H H' : Hp} (e : Same H H') : ∀ {d : Dat} {v : V}, Rep K H d v → Rep K H' d v
  | .non, _, h => by simpa [Rep] using h
  | .bl _, _, h => by simpa [Rep] using h
  | .int _, _, h => by simpa [Rep] using h
  | .str _, _, h => by simpa [Rep] using h
  | .fn _, _, h => by simpa [Rep] using h
  | .scr _, _, h => by
    obtain ⟨a, h1, h2⟩ := (by simpa [Rep] using h : ∃ a, _ = V.ref a ∧ SqL K H a _)
    rw [Rep]; exact ⟨a, h1, e.seq h2⟩
  | .tup _, _, h => by
    rw [Rep] at h ⊢
    obtain ⟨a, vs, h1, h2, h3⟩ := h
    exact ⟨a, vs, h1, sqT_same e h2, RepL.same e h3⟩
  | .lst _, _, h => by
    rw [Rep] at h ⊢
    obtain ⟨a, vs, h1, h2, h3⟩ := h
    exact ⟨a, vs, h1, e _ _ h2, RepL.same e h3⟩
theorem RepL.same {K : PySem.W.Frag} {H H' : Hp} (e : Same H H') : ∀ {ds : List Dat} {vs : List V}, RepL K H ds vs → RepL K H' ds vs
  | [], _, h => by rw [RepL] at h ⊢; exact h
  | _ :: _, _, h => by
    rw [RepL] at h ⊢
    obtain ⟨v, r, h1, h2, h3⟩ := h
    exact ⟨v, r, h1, Rep.same e h2, RepL.same e h3⟩
end

theorem RepL.length {K : PySem.W.Frag} {H : Hp} : ∀ {ds : List Dat} {vs : List V}, RepL K H ds vs → vs.length = ds.length
  | [], _, h => by rw [RepL] at h; subst h; rfl
  | _ :: _, _, h => by
    rw [RepL] at h
    obtain ⟨v, r, rfl, _, h3⟩ := h
    rw [List.length_cons, List.length_cons, RepL.length h3]
theorem RepL.get {K : PySem.W.Frag} {H : Hp} : ∀ {ds : List Dat} {vs : List V} {i : Nat} {d : Dat}, RepL K H ds vs → ds[i]? = some d → ∃ v, vs[i]? = some v ∧ Rep K H d v
  | [], _, _, _, _, e => by simp at e
  | _ :: _, _, 0, _, h, e => by
    rw [RepL] at h
    obtain ⟨v, r, rfl, h2, _⟩ := h
    simp at e; subst e; exact ⟨v, rfl, h2⟩
  | _ :: _, _, i + 1, d, h, e => by
    rw [RepL] at h
    obtain ⟨v, r, rfl, _, h3⟩ := h
    obtain ⟨u, h4, h5⟩ := RepL.get (i := i) (d := d) h3 (by simpa using e)
    exact ⟨u, by simpa using h4, h5⟩
theorem RepL.nil {K : PySem.W.Frag} {H : Hp} : RepL K H [] [] := by rw [RepL]
theorem RepL.cons {K : PySem.W.Frag} {H : Hp} {d : Dat} {ds : List Dat} {v : V} {vs : List V} (h : Rep K H d v) (t : RepL K H ds vs) : RepL K H (d :: ds) (v :: vs) := by
  rw [RepL]; exact ⟨v, vs, rfl, h, t⟩
theorem RepL.append {K : PySem.W.Frag} {H : Hp} : ∀ {ds es : List Dat} {vs us : List V}, RepL K H ds vs → RepL K H es us → RepL K H (ds ++ es) (vs ++ us)
  | [], _, _, _, h, t => by rw [RepL] at h; subst h; exact t
  | _ :: _, _, _, _, h, t => by
    rw [RepL] at h
    obtain ⟨v, r, rfl, h2, h3⟩ := h
    exact RepL.cons h2 (RepL.append h3 t)
theorem RepL.drop {K : PySem.W.Frag} {H : Hp} : ∀ (n : Nat) {ds : List Dat} {vs : List V}, RepL K H ds vs → RepL K H (ds.drop n) (vs.drop n)
  | 0, _, _, h => h
  | _ + 1, [], _, h => by rw [RepL] at h; subst h; simpa using RepL.nil
  | n + 1, _ :: _, _, h => by
    rw [RepL] at h
    obtain ⟨v, r, rfl, _, h3⟩ := h
    exact RepL.drop n h3
theorem RepL.take {K : PySem.W.Frag} {H : Hp} : ∀ (n : Nat) {ds : List Dat} {vs : List V}, RepL K H ds vs → RepL K H (ds.take n) (vs.take n)
  | 0, _, _, _ => by simpa using RepL.nil
  | _ + 1, [], _, h => by rw [RepL] at h; subst h; simpa using RepL.nil
  | n + 1, _ :: _, _, h => by
    rw [RepL] at h
    obtain ⟨v, r, rfl, h2, h3⟩ := h
    exact RepL.cons h2 (RepL.take n h3)
theorem RepL.ints {K : PySem.W.Frag} {H : Hp} : ∀ {ns : List Int} {vs : List V}, RepL K H (ns.map Dat.int) vs → vs = ns.map V.int
  | [], _, h => by rw [List.map_nil, RepL] at h; subst h; rfl
  | _ :: _, _, h => by
    rw [List.map_cons, RepL] at h
    obtain ⟨v, r, rfl, h2, h3⟩ := h
    rw [Rep] at h2
    subst h2
    rw [RepL.ints h3]; rfl

/-! ### what may be changed -/
inductive OD where
  | lst (l : List Dat)
  | dct (kvs : List (Dat × Dat))
abbrev Gs := Addr → Option OD
def g0 : Gs := fun _ => none
def put (G : Gs) (a : Addr) (o : OD) : Gs := fun b => if b = a then some o else G b
def rel (G : Gs) (a : Addr) : Gs := fun b => if b = a then none else G b
theorem put_same {G : Gs} {a : Addr} {o : OD} : put G a o a = some o := by simp [put]
theorem put_ne {G : Gs} {a b : Addr} {o : OD} (h : b ≠ a) : put G a o b = G b := by simp [put, h]
theorem rel_same {G : Gs} {a : Addr} : rel G a a = none := by simp [rel]
theorem rel_ne {G : Gs} {a b : Addr} (h : b ≠ a) : rel G a b = G b := by simp [rel, h]
theorem rel_put {G : Gs} {a : Addr} {o : OD} (h : G a = none) : rel (put G a o) a = G := by
  funext b; by_cases e : b = a
  · subst e; rw [rel_same, h]
  · rw [rel_ne e, put_ne e]
theorem put_put {G : Gs} {a : Addr} {o u : OD} : put (put G a o) a u = put G a u := by
  funext b; by_cases e : b = a
  · subst e; rw [put_same, put_same]
  · rw [put_ne e, put_ne e, put_ne e]
theorem put_comm {G : Gs} {a b : Addr} {o u : OD} (h : a ≠ b) : put (put G a o) b u = put (put G b u) a o := by
  funext c; by_cases e : c = a
  · subst e; rw [put_ne h, put_same, put_same]
  · by_cases f : c = b
    · subst f; rw [put_same, put_ne e, put_same]
    · rw [put_ne f, put_ne e, put_ne e, put_ne f]
theorem rel_put_ne {G : Gs} {a b : Addr} {o : OD} (h : a ≠ b) : rel (put G a o) b = put (rel G b) a o := by
  funext c; by_cases e : c = a
  · subst e; rw [rel_ne h, put_same, put_same]
  · by_cases f : c = b
    · subst f; rw [rel_same, put_ne e, rel_same]
    · rw [rel_ne f, put_ne e, put_ne e, rel_ne f]
theorem put_self {G : Gs} {a : Addr} {o : OD} (h : G a = some o) : put G a o = G := by
  funext b; by_cases e : b = a
  · subst e; rw [put_same, h]
  · rw [put_ne e]

def hid (H : Hp) (G : Gs) : Hp := fun b => if (G b).isSome then none else H b
theorem hid_get {H : Hp} {G : Gs} {b : Addr} {o : HO} (h : hid H G b = some o) : G b = none ∧ H b = some o := by
  unfold hid at h
  cases e : G b with
  | none => rw [e] at h; exact ⟨rfl, by simpa using h⟩
  | some u => rw [e] at h; simp at h
theorem hid_of {H : Hp} {G : Gs} {b : Addr} {o : HO} (h1 : G b = none) (h2 : H b = some o) : hid H G b = some o := by
  unfold hid; rw [h1]; simpa using h2
theorem hid_le {H : Hp} {G : Gs} : Same (hid H G) H := fun _ _ h => (hid_get h).2

structure Ext (H : Hp) (G : Gs) (H' : Hp) (G' : Gs) : Prop where
  keep : ∀ b o, H b = some o → G b = none → H' b = some o
  new : ∀ b, G' b ≠ none → G b ≠ none ∨ H b = none
theorem Ext.refl {H : Hp} {G : Gs} : Ext H G H G := ⟨fun _ _ h _ => h, fun _ h => .inl h⟩
theorem Ext.hid {H H' : Hp} {G G' : Gs} (e : Ext H G H' G') : Same (hid H G) (hid H' G') := fun b o h => by
  obtain ⟨h1, h2⟩ := hid_get h
  refine hid_of ?_ (e.keep b o h2 h1)
  cases q : G' b with
  | none => rfl
  | some u =>
    rcases e.new b (by rw [q]; exact nofun) with z | z
    · exact absurd h1 z
    · rw [h2] at z; cases z
theorem Ext.trans {H H1 H2 : Hp} {G G1 G2 : Gs} (a : Ext H G H1 G1) (b : Ext H1 G1 H2 G2) : Ext H G H2 G2 := by
  refine ⟨fun c o h h' => ?_, fun c h => ?_⟩
  · have h1 := a.keep c o h h'
    refine b.keep c o h1 ?_
    cases q : G1 c with
    | none => rfl
    | some u =>
      rcases a.new c (by rw [q]; exact nofun) with z | z
      · exact absurd h' z
      · rw [h] at z; cases z
  · rcases b.new c h with z | z
    · exact a.new c z
    · cases q : G c with
      | some u => exact .inl nofun
      | none =>
        right
        cases r : H c with
        | none => rfl
        | some o => rw [a.keep c o r q] at z; cases z
/-- a new object -/
theorem Ext.alloc {H : Hp} {G : Gs} {p : Addr} {o : HO} (h : H p = none) : Ext H G (upd H p o) G :=
  ⟨fun b u e _ => by rw [upd_ne (ne_of_none e h)]; exact e, fun _ h => .inl h⟩

/-- what may be a key: ints, tuples of keys -/
def keyD : Nat → Dat → Bool
  | _, .int _ => true
  | n + 1, .tup l => l.all (keyD n)
  | _, _ => false
mutual
def hashD : Dat → Int
  | .int i => hashInt i
  | .tup l => reduceHash (Builtin.Tuple.tupleHashOf (hashL l))
  | _ => 0
def hashL : List Dat → List Int
  | [] => []
  | d :: r => hashD d :: hashL r
end
/-- an entry of a dict: the key, where the key's tuple stands, the value -/
def entD (x : Dat × Addr × Value) : DictEntry := ⟨hashD x.1, .ref x.2.1, x.2.2⟩
def DictAt (a : Addr) (xs : List (Dat × Addr × Value)) (h : Heap) : Prop :=
  (a == sysModules) = false ∧ xs.length ≤ sizeLine ∧ (xs.map (·.1)).Nodup ∧ ∃ o es ep, h.get? a = some o ∧ o.ExactDict ∧ o.data = .dict es ep ∧ es.toList = xs.map entD
def dctO (a : Addr) (xs : List (Dat × Addr × Value)) : HO := .ext (DictAt a xs)
def DRep (K : PySem.W.Frag) (H : Hp) : List (Dat × Dat) → List (Dat × Addr × Value) → Prop
  | [], xs => xs = []
  | (k, d) :: r, xs => ∃ a u xs', xs = (k, a, u) :: xs' ∧ keyD 6 k = true ∧ Rep K H k (.ref a) ∧ (∃ v, RelV v u ∧ Rep K H d v) ∧ DRep K H r xs'
theorem DRep.same {K : PySem.W.Frag} {H H' : Hp} (e : Same H H') : ∀ {kvs : List (Dat × Dat)} {xs : List (Dat × Addr × Value)}, DRep K H kvs xs → DRep K H' kvs xs
  | [], _, h => h
  | _ :: _, _, ⟨a, u, xs', h1, h2, h3, ⟨v, h4, h5⟩, h6⟩ => ⟨a, u, xs', h1, h2, h3.same e, ⟨v, h4, h5.same e⟩, DRep.same e h6⟩
section
variable (K : PySem.W.Frag)
def OwnOk (H : Hp) (G : Gs) (a : Addr) : OD → Prop
  | .lst l => ∃ vs, H a = some (.lst vs) ∧ RepL K (hid H G) l vs
  | .dct kvs => ∃ xs, H a = some (dctO a xs) ∧ DRep K (hid H G) kvs xs
def GOk (H : Hp) (G : Gs) : Prop := ∀ a o, G a = some o → OwnOk K H G a o
end
section
variable {K : PySem.W.Frag} {H H' : Hp} {G G' : Gs} {a p : Addr}
theorem OwnOk.there {o : OD} (h : OwnOk K H G a o) : ∃ u, H a = some u := by
  cases o with
  | lst l => obtain ⟨vs, h, _⟩ := h; exact ⟨_, h⟩
  | dct kvs => obtain ⟨xs, h, _⟩ := h; exact ⟨_, h⟩
theorem OwnOk.ext {o : OD} (h : OwnOk K H G a o) (e : Same (hid H G) (hid H' G')) (q : H' a = H a) : OwnOk K H' G' a o := by
  cases o with
  | lst l =>
    obtain ⟨vs, h1, h2⟩ := h
    exact ⟨vs, q.trans h1, h2.same e⟩
  | dct kvs =>
    obtain ⟨xs, h1, h2⟩ := h
    exact ⟨xs, q.trans h1, h2.same e⟩
theorem GOk.free (h : GOk K H G) (hp : H p = none) : G p = none := by
  cases q : G p with
  | none => rfl
  | some o => obtain ⟨u, e⟩ := (h p o q).there; rw [hp] at e; cases e
theorem GOk.alloc {o : HO} (h : GOk K H G) (hp : H p = none) : GOk K (upd H p o) G := fun b u q =>
  (h b u q).ext (Ext.alloc hp).hid (upd_ne (by rintro rfl; rw [h.free hp] at q; cases q))
theorem g0_ok : GOk K H g0 := fun _ _ h => nomatch h
theorem hid_g0 : hid H g0 = H := by funext b; simp [hid, g0]
end

abbrev Rho := List (Option Dat)
structure Stt (X : Cx) (H : Hp) (σ : St) (ρ : Rho) (G : Gs) : Prop where
  env : ∀ (i : Nat) d, ρ[i]? = some (some d) → ∃ v, σ[i]? = some (some v) ∧ Rep X.K (hid H G) d v
  len : ρ.length = σ.length
  own : GOk X.K H G
theorem Stt.ext {X : Cx} {H H' : Hp} {σ : St} {ρ : Rho} {G G' : Gs} (S : Stt X H σ ρ G) (e : Ext H G H' G') (o : GOk X.K H' G') : Stt X H' σ ρ G' :=
  ⟨fun i d h => let ⟨v, h1, h2⟩ := S.env i d h; ⟨v, h1, h2.same e.hid⟩, S.len, o⟩
theorem Stt.set {X : Cx} {H : Hp} {σ : St} {ρ : Rho} {G : Gs} {i : Nat} {d : Dat} {v : V} (S : Stt X H σ ρ G) (r : Rep X.K (hid H G) d v) : Stt X H (σ.set i (some v)) (ρ.set i (some d)) G := by
  refine ⟨fun j e h => ?_, by rw [List.length_set, List.length_set, S.len], S.own⟩
  by_cases hj : i = j
  · subst hj
    have hl : i < ρ.length := by
      have := (List.getElem?_eq_some_iff.mp h).1
      rwa [List.length_set] at this
    rw [List.getElem?_set_self hl] at h
    cases h
    exact ⟨v, by rw [List.getElem?_set_self (by rw [← S.len]; exact hl)], r⟩
  · rw [List.getElem?_set_ne hj] at h
    rw [List.getElem?_set_ne hj]
    exact S.env j e h

/-! ### judgements -/
section
variable (X : Cx)
def Po (H : Hp) (G : Gs) (Q : Dat → Gs → Prop) : VK := fun v H' => ∃ d G', Ext H G H' G' ∧ GOk X.K H' G' ∧ Rep X.K (hid H' G') d v ∧ Q d G'
def PoT (H : Hp) (G : Gs) (Q : Bool → Gs → Prop) : Bool → Hp → Prop := fun b H' => ∃ G', Ext H G H' G' ∧ GOk X.K H' G' ∧ Q b G'
def PoA (H : Hp) (G : Gs) (Q : List Dat → Gs → Prop) : List V → Hp → Prop := fun vs H' => ∃ ds G', Ext H G H' G' ∧ GOk X.K H' G' ∧ RepL X.K (hid H' G') ds vs ∧ Q ds G'
/-- an expression -/
def WE (ρ : Rho) (G : Gs) (e : Expr) (Q : Dat → Gs → Prop) : Prop :=
  ∀ (pins : List (Addr × Obj)) (s : Shared) (σ : St) (H : Hp), Inv X pins σ H s → Stt X H σ ρ G → wpAny (model X.prog X.w) X.A (eval e X.env) (EP X pins σ (Po X H G Q)) X.xe s
/-- a test -/
def WT (ρ : Rho) (G : Gs) (e : Expr) (Q : Bool → Gs → Prop) : Prop :=
  ∀ (pins : List (Addr × Obj)) (s : Shared) (σ : St) (H : Hp), Inv X pins σ H s → Stt X H σ ρ G → wpAny (model X.prog X.w) X.A (isTrue e X.env (eval e X.env)) (TP X pins σ (PoT X H G Q)) X.xe s
/-- arguments -/
def WA (ρ : Rho) (G : Gs) (es : List Expr) (Q : List Dat → Gs → Prop) : Prop :=
  ∀ (pos : Pos) (pins : List (Addr × Obj)) (s : Shared) (σ : St) (H : Hp), Inv X pins σ H s → Stt X H σ ρ G → wpAny (model X.prog X.w) X.A (spliced (backTo pos (starEach es X.env))) (AP X pins σ (PoA X H G Q)) X.xe s
/-- an expression that changes nothing -/
def PX (ρ : Rho) (G : Gs) (e : Expr) (d : Dat) : Prop := WE X ρ G e fun d' G' => d' = d ∧ G' = G
def PXT (ρ : Rho) (G : Gs) (e : Expr) (b : Bool) : Prop := WT X ρ G e fun b' G' => b' = b ∧ G' = G
def PXs (ρ : Rho) (G : Gs) (es : List Expr) (ds : List Dat) : Prop := WA X ρ G es fun d' G' => d' = ds ∧ G' = G
end

theorem EP.mono {X : Cx} {pins : List (Addr × Obj)} {σ : St} {Q Q' : VK} {u : Value} {s : Shared} (h : EP X pins σ Q u s) (k : ∀ v H, Q v H → Q' v H) : EP X pins σ Q' u s :=
  let ⟨v, H, I, r, q⟩ := h; ⟨v, H, I, r, k v H q⟩
theorem TP.mono {X : Cx} {pins : List (Addr × Obj)} {σ : St} {Q Q' : Bool → Hp → Prop} {u : Bool} {s : Shared} (h : TP X pins σ Q u s) (k : ∀ v H, Q v H → Q' v H) : TP X pins σ Q' u s :=
  let ⟨H, I, q⟩ := h; ⟨H, I, k _ H q⟩
theorem AP.mono {X : Cx} {pins : List (Addr × Obj)} {σ : St} {Q Q' : List V → Hp → Prop} {u : List Value} {s : Shared} (h : AP X pins σ Q u s) (k : ∀ v H, Q v H → Q' v H) : AP X pins σ Q' u s :=
  let ⟨v, H, I, r, q⟩ := h; ⟨v, H, I, r, k v H q⟩
theorem Po.mono {X : Cx} {H : Hp} {G : Gs} {Q Q' : Dat → Gs → Prop} {v : V} {H' : Hp} (h : Po X H G Q v H') (k : ∀ d G', Q d G' → Q' d G') : Po X H G Q' v H' :=
  let ⟨d, G', e, o, r, q⟩ := h; ⟨d, G', e, o, r, k d G' q⟩
theorem Po.trans {X : Cx} {H H1 : Hp} {G G1 : Gs} {Q : Dat → Gs → Prop} {v : V} {H' : Hp} (e : Ext H G H1 G1) (h : Po X H1 G1 Q v H') : Po X H G Q v H' :=
  let ⟨d, G', e', o, r, q⟩ := h; ⟨d, G', e.trans e', o, r, q⟩
theorem PoT.trans {X : Cx} {H H1 : Hp} {G G1 : Gs} {Q : Bool → Gs → Prop} {v : Bool} {H' : Hp} (e : Ext H G H1 G1) (h : PoT X H1 G1 Q v H') : PoT X H G Q v H' :=
  let ⟨G', e', o, q⟩ := h; ⟨G', e.trans e', o, q⟩
theorem PoA.trans {X : Cx} {H H1 : Hp} {G G1 : Gs} {Q : List Dat → Gs → Prop} {v : List V} {H' : Hp} (e : Ext H G H1 G1) (h : PoA X H1 G1 Q v H') : PoA X H G Q v H' :=
  let ⟨d, G', e', o, r, q⟩ := h; ⟨d, G', e.trans e', o, r, q⟩

section
variable {X : Cx} {ρ : Rho} {G : Gs} {e a b : Expr} {es : List Expr} {d d' d1 d2 : Dat} {ds : List Dat} {pos : Pos}
/-- both ways between the layer's readings and ours -/
theorem we_pe {t : TE} {Q : Dat → Gs → Prop} (h : PE X e t) (hq : ∀ σ H, Stt X H σ ρ G → t σ H (Po X H G Q)) : WE X ρ G e Q := fun pins s σ H I S => h pins s σ H _ I (hq σ H S)
def tW (X : Cx) (e : Expr) : TE := fun σ H Q' => ∃ ρ G R, WE X ρ G e R ∧ Stt X H σ ρ G ∧ ∀ v H', Po X H G R v H' → Q' v H'
theorem pe_we : PE X e (tW X e) := fun pins s σ H Q I ⟨_, _, _, h, S, k⟩ => thn (h pins s σ H I S) fun _ _ q => EP.mono q k
theorem wt_pt {t : TT} {Q : Bool → Gs → Prop} (h : PT X e t) (hq : ∀ σ H, Stt X H σ ρ G → t σ H (PoT X H G Q)) : WT X ρ G e Q := fun pins s σ H I S => h pins s σ H _ I (hq σ H S)
def tWT (X : Cx) (e : Expr) : TT := fun σ H Q' => ∃ ρ G R, WT X ρ G e R ∧ Stt X H σ ρ G ∧ ∀ v H', PoT X H G R v H' → Q' v H'
theorem pt_wt : PT X e (tWT X e) := fun pins s σ H Q I ⟨_, _, _, h, S, k⟩ => thn (h pins s σ H I S) fun _ _ q => TP.mono q k
theorem wa_pa {t : TA} {Q : List Dat → Gs → Prop} (h : PA X es t) (hq : ∀ σ H, Stt X H σ ρ G → t σ H (PoA X H G Q)) : WA X ρ G es Q := fun pos pins s σ H I S => h pos pins s σ H _ I (hq σ H S)
def tWA (X : Cx) (es : List Expr) : TA := fun σ H Q' => ∃ ρ G R, WA X ρ G es R ∧ Stt X H σ ρ G ∧ ∀ v H', PoA X H G R v H' → Q' v H'
theorem pa_wa : PA X es (tWA X es) := fun pos pins s σ H Q I ⟨_, _, _, h, S, k⟩ => thn (h pos pins s σ H I S) fun _ _ q => AP.mono q k

theorem WE.mono {Q Q' : Dat → Gs → Prop} (h : WE X ρ G e Q) (k : ∀ d G', Q d G' → Q' d G') : WE X ρ G e Q' := fun pins s σ H I S => thn (h pins s σ H I S) fun _ _ q => EP.mono q fun _ _ z => Po.mono z k
theorem PX.we {Q : Dat → Gs → Prop} (h : PX X ρ G e d) (q : Q d G) : WE X ρ G e Q := WE.mono h fun _ _ ⟨h1, h2⟩ => by subst h1; subst h2; exact q
theorem PX.cast (h : PX X ρ G e d) (q : d = d') : PX X ρ G e d' := q ▸ h
/-- what a step hands on: nothing but d, nothing changed but new objects -/
theorem po1 {H H' : Hp} {v : V} (e : Ext H G H' G) (o : GOk X.K H' G) (r : Rep X.K (hid H' G) d v) : Po X H G (fun d' G' => d' = d ∧ G' = G) v H' := ⟨d, G, e, o, r, rfl, rfl⟩
theorem po1' {H : Hp} {v : V} (o : GOk X.K H G) (r : Rep X.K (hid H G) d v) : Po X H G (fun d' G' => d' = d ∧ G' = G) v H := po1 Ext.refl o r

/-! names and constants -/
theorem px_var (i : Nat) {x : Str} (hi : ρ[i]? = some (some d)) (hN : X.N[i]? = some x := by rfl) (hv : Vis X.env.scope x := by first | exact Or.inl rfl | exact Or.inr (Or.inl rfl) | exact Or.inr (Or.inr rfl)) (hd : (x == ("__debug__" : Str)) = false := by decide)
    (hcd : (x == ("__classdict__" : Str)) = false := by decide) : PX X ρ G (.Name x pos) d :=
  we_pe (pe_var hN hv hd hcd) fun σ H S => let ⟨v, h1, h2⟩ := S.env i d hi; ⟨v, h1, po1' S.own h2⟩
theorem px_int {i : Int} {j} : PX X ρ G (.Constant (.int i) j pos) (.int i) := we_pe pe_int fun σ H S => po1' S.own rfl
theorem px_bl {i : Bool} {j} : PX X ρ G (.Constant (.bool i) j pos) (.bl i) := we_pe pe_bl fun σ H S => po1' S.own rfl
theorem px_non {j} : PX X ρ G (.Constant .none j pos) .non := we_pe pe_non fun σ H S => po1' S.own rfl
theorem px_str {x : Str} {j} : PX X ρ G (.Constant (.str x) j pos) (.str x) := we_pe pe_str fun σ H S => po1' S.own rfl

/-! two operands -/
theorem px_op {op : Operator} {r : R2} (ho : OpR X (binaryOp op) r) (ha : PX X ρ G a d1) (hb : PX X ρ G b d2)
    (hr : ∀ (H : Hp) (x y : V) (Q : VK), GOk X.K H G → Rep X.K (hid H G) d1 x → Rep X.K (hid H G) d2 y → (∀ v H', Po X H G (fun d' G' => d' = d ∧ G' = G) v H' → Q v H') → r x y H Q) : PX X ρ G (.BinOp a op b pos) d :=
  we_pe (pe_op ho pe_we pe_we) fun σ H S => ⟨ρ, G, _, ha, S, fun x H1 ⟨_, _, e1, o1, r1, q1, q1'⟩ => by
    subst q1; subst q1'
    refine ⟨ρ, _, _, hb, S.ext e1 o1, fun y H2 ⟨_, _, e2, o2, r2, q2, q2'⟩ => ?_⟩
    subst q2; subst q2'
    exact hr H2 x y _ o2 (r1.same e2.hid) r2 fun v H' z => Po.trans (e1.trans e2) z⟩
theorem px_cmp {op : CmpOp} {r : R2} (ho : OpR X (compareOp op) r) (ha : PX X ρ G a d1) (hb : PX X ρ G b d2) (hm : behindInMarks op b = false)
    (hr : ∀ (H : Hp) (x y : V) (Q : VK), GOk X.K H G → Rep X.K (hid H G) d1 x → Rep X.K (hid H G) d2 y → (∀ v H', Po X H G (fun d' G' => d' = d ∧ G' = G) v H' → Q v H') → r x y H Q) : PX X ρ G (.Compare a [op] [b] pos) d :=
  we_pe (pe_cmpR ho pe_we pe_we hm) fun σ H S => ⟨ρ, G, _, ha, S, fun x H1 ⟨_, _, e1, o1, r1, q1, q1'⟩ => by
    subst q1; subst q1'
    refine ⟨ρ, _, _, hb, S.ext e1 o1, fun y H2 ⟨_, _, e2, o2, r2, q2, q2'⟩ => ?_⟩
    subst q2; subst q2'
    exact hr H2 x y _ o2 (r1.same e2.hid) r2 fun v H' z => Po.trans (e1.trans e2) z⟩
end
end TF
set_option Elab.async false
set_option linter.all false
set_option maxRecDepth 100000
set_option maxHeartbeats 1000000
/-! Expressions over data: arithmetic, equality, membership, displays, subscripts, slices, len -/
namespace TF
open PySem PySem.Spec L2
open PyProof.Rows hiding St RelV

/-! ### equality of data as Python has it -/
mutual
def eqD : Dat → Dat → Bool
  | .non, .non => true
  | .bl a, .bl b => a == b
  | .bl a, .int b => (if a then 1 else 0) == b
  | .int a, .bl b => a == (if b then 1 else 0)
  | .int a, .int b => a == b
  | .str a, .str b => a == b
  | .tup l, .tup m => eqL l m
  | .lst l, .lst m => eqL l m
  | _, _ => false
def eqL : List Dat → List Dat → Bool
  | [], [] => true
  | x :: xs, y :: ys => eqD x y && eqL xs ys
  | _, _ => false
end
def flatD : Dat → Bool
  | .non => true | .bl _ => true | .int _ => true | .str _ => true | _ => false
/-- data of at most that depth, without functions -/
def plainD : Nat → Dat → Bool
  | 0, d => flatD d
  | n + 1, .tup l => l.all (plainD n)
  | n + 1, .lst l => l.all (plainD n)
  | _ + 1, d => flatD d
theorem plainD_flat {d : Dat} (h : flatD d = true) : ∀ n, plainD n d = true
  | 0 => h
  | n + 1 => by cases d <;> first | exact h | (simp [flatD] at h)
theorem plainD_mono {d : Dat} : ∀ {n m : Nat}, n ≤ m → plainD n d = true → plainD m d = true := by
  intro n
  induction n generalizing d with
  | zero => intro m _ h; exact plainD_flat h m
  | succ n ih =>
    intro m hm h
    obtain ⟨k, rfl⟩ : ∃ k, m = k + 1 := ⟨m - 1, by omega⟩
    cases d <;> first | exact h | skip
    all_goals
      simp only [plainD, List.all_eq_true] at h ⊢
      exact fun x hx => ih (by omega) (h x hx)
theorem eqD_refl : ∀ (n : Nat) (d : Dat), plainD n d = true → eqD d d = true := by
  intro n
  induction n with
  | zero => intro d h; cases d <;> simp_all [plainD, flatD, eqD]
  | succ n ih =>
    have hl : ∀ l : List Dat, l.all (plainD n) = true → eqL l l = true := by
      intro l
      induction l with
      | nil => intro _; simp [eqL]
      | cons x r ihr =>
        intro h
        simp only [List.all_cons, Bool.and_eq_true] at h
        simp only [eqL, Bool.and_eq_true]
        exact ⟨ih x h.1, ihr h.2⟩
    intro d h
    cases d <;> simp_all [plainD, flatD, eqD]
theorem eqL_range : ∀ (l m : List Dat), eqL l m = ((List.range (min l.length m.length)).all (fun j => match l[j]?, m[j]? with | some x, some y => eqD x y | _, _ => true) && l.length == m.length)
  | [], [] => by simp [eqL]
  | [], _ :: _ => by simp [eqL]
  | _ :: _, [] => by simp [eqL]
  | x :: l, y :: m => by
    rw [eqL, eqL_range l m, List.length_cons, List.length_cons, Nat.succ_min_succ, List.range_succ_eq_map, List.all_cons, List.all_map]
    simp only [List.getElem?_cons_zero, Function.comp_def, List.getElem?_cons_succ, Nat.succ_eq_add_one, Bool.and_assoc]
    congr 2
    rw [Bool.eq_iff_iff]; simp

/-! ### data in the machine's own heap -/
mutual
def AtH (h : Heap) : Dat → Value → Prop
  | .non, u => u = .none
  | .bl b, u => u = .bool b
  | .int i, u => ∃ t, u = .int i t
  | .str x, u => ∃ t, u = .str x t
  | .fn a, u => u = .ref a
  | .scr _, _ => False
  | .tup l, u => ∃ a its, u = .ref a ∧ h.IsTuple a its.toArray ∧ AtL h l its
  | .lst l, u => ∃ a its, u = .ref a ∧ h.IsList a its.toArray ∧ AtL h l its
def AtL (h : Heap) : List Dat → List Value → Prop
  | [], us => us = []
  | d :: ds, us => ∃ u r, us = u :: r ∧ AtH h d u ∧ AtL h ds r
end
theorem AtL.length {h : Heap} : ∀ {ds : List Dat} {us : List Value}, AtL h ds us → us.length = ds.length
  | [], _, r => by rw [AtL] at r; subst r; rfl
  | _ :: _, _, r => by
    rw [AtL] at r
    obtain ⟨u, r, rfl, _, h3⟩ := r
    rw [List.length_cons, List.length_cons, AtL.length h3]
theorem AtL.get {h : Heap} : ∀ {ds : List Dat} {us : List Value} {i : Nat} {d : Dat}, AtL h ds us → ds[i]? = some d → ∃ u, us[i]? = some u ∧ AtH h d u
  | [], _, _, _, _, e => by simp at e
  | _ :: _, _, 0, _, r, e => by
    rw [AtL] at r
    obtain ⟨u, r, rfl, h2, _⟩ := r
    simp at e; subst e; exact ⟨u, rfl, h2⟩
  | _ :: _, _, i + 1, d, r, e => by
    rw [AtL] at r
    obtain ⟨u, r, rfl, _, h3⟩ := r
    obtain ⟨u', h4, h5⟩ := AtL.get (i := i) (d := d) h3 (by simpa using e)
    exact ⟨u', by simpa using h4, h5⟩
section
variable {X : Cx} {pins : List (Addr × Obj)} {σ : St} {H : Hp} {s : Shared}
mutual
theorem Rep.at (I : Inv X pins σ H s) : ∀ {d : Dat} {v : V} {u : Value} {n : Nat}, plainD n d = true → Rep X.K H d v → RelV v u → AtH s.heap d u
  | .non, _, _, _, _, r, q => by rw [Rep] at r; subst r; cases q; rw [AtH]
  | .bl _, _, _, _, _, r, q => by rw [Rep] at r; subst r; cases q; rw [AtH]
  | .int _, _, _, _, _, r, q => by rw [Rep] at r; subst r; rw [AtH]; exact q
  | .str _, _, _, _, _, r, q => by rw [Rep] at r; subst r; rw [AtH]; exact q
  | .fn _, _, _, _, _, r, q => by rw [Rep] at r; subst r; cases q; rw [AtH]
  | .scr _, _, _, n, p, _, _ => by cases n <;> simp [plainD, flatD] at p
  | .tup l, _, _, n, p, r, q => by
    rw [Rep] at r
    obtain ⟨a, vs, rfl, h1, h2⟩ := r
    cases q
    obtain ⟨its, rv, ht, _⟩ := I.tuple h1
    rw [AtH]
    refine ⟨a, its, rfl, ht, ?_⟩
    cases n with
    | zero => simp [plainD, flatD] at p
    | succ n => exact RepL.at I (n := n) (by simpa [plainD] using p) h2 rv
  | .lst l, _, _, n, p, r, q => by
    rw [Rep] at r
    obtain ⟨a, vs, rfl, h1, h2⟩ := r
    cases q
    obtain ⟨its, rv, ht, _⟩ := I.list (SqL.of h1)
    rw [AtH]
    refine ⟨a, its, rfl, ht.isList, ?_⟩
    cases n with
    | zero => simp [plainD, flatD] at p
    | succ n => exact RepL.at I (n := n) (by simpa [plainD] using p) h2 rv
theorem RepL.at (I : Inv X pins σ H s) : ∀ {ds : List Dat} {vs : List V} {us : List Value} {n : Nat}, ds.all (plainD n) = true → RepL X.K H ds vs → Vals vs us → AtL s.heap ds us
  | [], _, _, _, _, r, q => by rw [RepL] at r; subst r; cases q; rw [AtL]
  | d :: ds, _, _, n, p, r, q => by
    rw [RepL] at r
    obtain ⟨v, r, rfl, h1, h2⟩ := r
    cases q with
    | cons q1 q2 =>
      simp only [List.all_cons, Bool.and_eq_true] at p
      rw [AtL]
      exact ⟨_, _, rfl, Rep.at I p.1 h1 q1, RepL.at I p.2 h2 q2⟩
end
end
theorem AtH.flat {h : Heap} {d : Dat} {u : Value} (r : AtH h d u) (f : flatD d = true) : ∃ v, RelV v u ∧ flatV v = true ∧ ∀ (d' : Dat) (u' : Value) (v' : V), flatD d' = true → AtH h d' u' → RelV v' u' → eqV v v' = eqD d d' := by
  cases d <;> simp only [flatD, Bool.false_eq_true] at f <;> rw [AtH] at r
  · subst r
    refine ⟨.non, rfl, rfl, fun d' u' v' f' r' q' => ?_⟩
    cases d' <;> simp only [flatD, Bool.false_eq_true] at f' <;> rw [AtH] at r' <;> first | (subst r'; cases v' <;> simp_all [RelV, eqV, eqD]; done) | (obtain ⟨t, rfl⟩ := r'; cases v' <;> simp_all [RelV, eqV, eqD])
  · subst r
    refine ⟨.bl _, rfl, rfl, fun d' u' v' f' r' q' => ?_⟩
    cases d' <;> simp only [flatD, Bool.false_eq_true] at f' <;> rw [AtH] at r' <;> first | (subst r'; cases v' <;> simp_all [RelV, eqV, eqD]; done) | (obtain ⟨t, rfl⟩ := r'; cases v' <;> simp_all [RelV, eqV, eqD])
  · refine ⟨.int _, r, rfl, fun d' u' v' f' r' q' => ?_⟩
    cases d' <;> simp only [flatD, Bool.false_eq_true] at f' <;> rw [AtH] at r' <;> first | (subst r'; cases v' <;> simp_all [RelV, eqV, eqD]; done) | (obtain ⟨t, rfl⟩ := r'; cases v' <;> simp_all [RelV, eqV, eqD])
  · refine ⟨.str _, r, rfl, fun d' u' v' f' r' q' => ?_⟩
    cases d' <;> simp only [flatD, Bool.false_eq_true] at f' <;> rw [AtH] at r' <;> first | (subst r'; cases v' <;> simp_all [RelV, eqV, eqD]; done) | (obtain ⟨t, rfl⟩ := r'; cases v' <;> simp_all [RelV, eqV, eqD])
theorem not_both {h : Heap} {a : Addr} {xs ys : Array Value} (h1 : h.IsTuple a xs) (h2 : h.IsList a ys) : False := by
  obtain ⟨o, e, c, _⟩ := h1
  obtain ⟨o', e', c', _⟩ := h2
  rw [e] at e'; cases e'
  rw [c] at c'; exact absurd c' (by decide)
theorem tuple_one {h : Heap} {a : Addr} {xs ys : List Value} (h1 : h.IsTuple a xs.toArray) (h2 : h.IsTuple a ys.toArray) : xs = ys := by
  obtain ⟨o, e, c, n, d⟩ := h1
  obtain ⟨o', e', c', n', d'⟩ := h2
  rw [e] at e'; cases e'
  rw [d] at d'
  injection d' with d1 _
  simpa using congrArg Array.toList d1
theorem list_one {h : Heap} {a : Addr} {xs ys : List Value} (h1 : h.IsList a xs.toArray) (h2 : h.IsList a ys.toArray) : xs = ys := by
  obtain ⟨o, e, c, n, d⟩ := h1
  obtain ⟨o', e', c', n', d'⟩ := h2
  rw [e] at e'; cases e'
  rw [d] at d'
  injection d' with d1 _
  simpa using congrArg Array.toList d1
/-- a value says which data it is -/
theorem AtH.inj {h : Heap} : ∀ (n : Nat) {d d' : Dat} {u : Value}, plainD n d = true → plainD n d' = true → AtH h d u → AtH h d' u → d = d' := by
  have flat : ∀ {d d' : Dat} {u : Value}, flatD d = true → flatD d' = true → AtH h d u → AtH h d' u → d = d' := by
    intro d d' u f f' r r'
    cases d <;> simp only [flatD, Bool.false_eq_true] at f <;> cases d' <;> simp only [flatD, Bool.false_eq_true] at f' <;> simp only [AtH] at r r' <;>
      first
      | rfl
      | (subst r; cases r'; rfl)
      | (obtain ⟨t, rfl⟩ := r; obtain ⟨t', e⟩ := r'; cases e; rfl)
      | (exfalso; subst r; cases r'; done)
      | (exfalso; subst r; obtain ⟨t', e⟩ := r'; cases e; done)
      | (exfalso; obtain ⟨t, rfl⟩ := r; cases r'; done)
      | (exfalso; obtain ⟨t, rfl⟩ := r; obtain ⟨t', e⟩ := r'; cases e; done)
  have cross : ∀ {d : Dat} {u : Value} {a : Addr}, flatD d = true → AtH h d u → u = .ref a → False := by
    intro d u a f r e
    subst e
    cases d <;> simp only [flatD, Bool.false_eq_true] at f <;> rw [AtH] at r <;> first | (cases r; done) | (obtain ⟨t, e⟩ := r; cases e; done)
  intro n
  induction n with
  | zero => intro d d' u h h' r r'; exact flat h h' r r'
  | succ n ih =>
    have hl : ∀ (l m : List Dat) (us : List Value), l.all (plainD n) = true → m.all (plainD n) = true → AtL h l us → AtL h m us → l = m := by
      intro l
      induction l with
      | nil =>
        intro m us _ _ r r'
        rw [AtL] at r; subst r
        cases m with
        | nil => rfl
        | cons y m => rw [AtL] at r'; obtain ⟨_, _, e, _⟩ := r'; cases e
      | cons x l ihl =>
        intro m us h h' r r'
        rw [AtL] at r
        obtain ⟨v, rr, rfl, r1, r2⟩ := r
        cases m with
        | nil => rw [AtL] at r'; cases r'
        | cons y m =>
          rw [AtL] at r'
          obtain ⟨v', rr', e, r1', r2'⟩ := r'
          cases e
          simp only [List.all_cons, Bool.and_eq_true] at h h'
          rw [ih h.1 h'.1 r1 r1', ihl m _ h.2 h'.2 r2 r2']
    intro d d' u h h' r r'
    by_cases f : flatD d = true
    · by_cases f' : flatD d' = true
      · exact flat f f' r r'
      · exfalso
        cases d' <;> simp [plainD, flatD] at h' f'
        · rw [AtH] at r'; obtain ⟨a, _, e, _⟩ := r'; exact cross f r e
        · rw [AtH] at r'; obtain ⟨a, _, e, _⟩ := r'; exact cross f r e
    · by_cases f' : flatD d' = true
      · exfalso
        cases d <;> simp [plainD, flatD] at h f
        · rw [AtH] at r; obtain ⟨a, _, e, _⟩ := r; exact cross f' r' e
        · rw [AtH] at r; obtain ⟨a, _, e, _⟩ := r; exact cross f' r' e
      · cases d <;> simp [plainD, flatD] at h f <;> cases d' <;> simp [plainD, flatD] at h' f' <;> simp only [AtH] at r r' <;> obtain ⟨a, xs, e1, t1, l1⟩ := r <;> obtain ⟨b, ys, e2, t2, l2⟩ := r' <;> subst e1 <;> cases e2
        · have := tuple_one t1 t2
          subst this
          rw [hl _ _ _ (List.all_eq_true.mpr h) (List.all_eq_true.mpr h') l1 l2]
        · exact (not_both t1 t2).elim
        · exact (not_both t2 t1).elim
        · have := list_one t1 t2
          subst this
          rw [hl _ _ _ (List.all_eq_true.mpr h) (List.all_eq_true.mpr h') l1 l2]
theorem Rep.inj {X : Cx} {pins : List (Addr × Obj)} {σ : St} {H : Hp} {s : Shared} (I : Inv X pins σ H s) (n : Nat) {d d' : Dat} {v : V} {u : Value} (h : plainD n d = true) (h' : plainD n d' = true) (r : Rep X.K H d v) (r' : Rep X.K H d' v) (q : RelV v u) : d = d' :=
  AtH.inj n h h' (r.at I h q) (r'.at I h' q)
/-- == of two values of data -/
theorem eqAt_D {s : Shared} : ∀ (n : Nat) {A : Around} {d e : Dat} {u v : Value}, plainD n d = true → plainD n e = true → AtH s.heap d u → AtH s.heap e v → A.units + n < cLine →
    SeqAt.EqAt A s u v (eqD d e) ∧ SeqAt.RcAt A s u v (eqD d e) := by
  have flats : ∀ {A : Around} {d e : Dat} {u v : Value}, flatD d = true → flatD e = true → AtH s.heap d u → AtH s.heap e v → SeqAt.EqAt A s u v (eqD d e) ∧ SeqAt.RcAt A s u v (eqD d e) := by
    intro A d e u v fd fe rd re
    constructor
    · obtain ⟨x, hx, fx, h1⟩ := AtH.flat rd fd
      obtain ⟨y, hy, fy, _⟩ := AtH.flat re fe
      rw [← h1 e v y fe re hy]
      exact eqAt_V hx hy fx fy
    · cases d <;> simp only [flatD, Bool.false_eq_true] at fd <;> cases e <;> simp only [flatD, Bool.false_eq_true] at fe <;> simp only [AtH] at rd re <;> simp only [eqD]
      · subst rd; subst re; exact SeqAt.RcAt.none_none
      · subst rd; subst re; exact SeqAt.RcAt.none_bool _
      · subst rd; obtain ⟨_, rfl⟩ := re; exact SeqAt.RcAt.none_int _ _
      · subst rd; obtain ⟨_, rfl⟩ := re; exact SeqAt.RcAt.none_str _ _
      · subst rd; subst re; exact SeqAt.RcAt.bool_none _
      · subst rd; subst re; exact SeqAt.RcAt.bool_bool _ _
      · subst rd; obtain ⟨_, rfl⟩ := re; exact SeqAt.RcAt.bool_int _ _ _
      · subst rd; obtain ⟨_, rfl⟩ := re; exact SeqAt.RcAt.bool_str _ _ _
      · obtain ⟨_, rfl⟩ := rd; subst re; exact SeqAt.RcAt.int_none _ _
      · obtain ⟨_, rfl⟩ := rd; subst re; exact SeqAt.RcAt.int_bool _ _ _
      · obtain ⟨_, rfl⟩ := rd; obtain ⟨_, rfl⟩ := re; exact SeqAt.RcAt.int_int _ _ _ _
      · obtain ⟨_, rfl⟩ := rd; obtain ⟨_, rfl⟩ := re; exact SeqAt.RcAt.int_str _ _ _ _
      · obtain ⟨_, rfl⟩ := rd; subst re; exact SeqAt.RcAt.str_none _ _
      · obtain ⟨_, rfl⟩ := rd; subst re; exact SeqAt.RcAt.str_bool _ _ _
      · obtain ⟨_, rfl⟩ := rd; obtain ⟨_, rfl⟩ := re; exact SeqAt.RcAt.str_int _ _ _ _
      · obtain ⟨_, rfl⟩ := rd; obtain ⟨_, rfl⟩ := re; exact SeqAt.RcAt.str_str _ _ _ _
  intro n
  induction n with
  | zero => intro A d e u v hd he rd re _; exact flats hd he rd re
  | succ n ih =>
    intro A d e u v hd he rd re hu
    have hu0 : A.units < cLine := by omega
    have items : ∀ (l m : List Dat) (is js : List Value), l.all (plainD n) = true → m.all (plainD n) = true → AtL s.heap l is → AtL s.heap m js →
        ∀ j (h1 : j < is.toArray.size) (h2 : j < js.toArray.size), SeqAt.EqAt A.in1 s is.toArray[j] js.toArray[j] ((fun j => match l[j]?, m[j]? with | some x, some y => eqD x y | _, _ => true) j) := by
      intro l m is js hl hm rl rm j h1 h2
      have h1' : j < is.length := by simpa using h1
      have h2' : j < js.length := by simpa using h2
      have l1 : j < l.length := by rw [← rl.length]; exact h1'
      have l2 : j < m.length := by rw [← rm.length]; exact h2'
      obtain ⟨u1, f1, q1⟩ := rl.get (List.getElem?_eq_getElem l1)
      obtain ⟨u2, f2, q2⟩ := rm.get (List.getElem?_eq_getElem l2)
      rw [List.getElem?_eq_getElem h1'] at f1
      rw [List.getElem?_eq_getElem h2'] at f2
      cases f1
      cases f2
      have hx : plainD n l[j] = true := List.all_eq_true.mp hl _ (List.getElem_mem l1)
      have hy : plainD n m[j] = true := List.all_eq_true.mp hm _ (List.getElem_mem l2)
      have := (ih (A := A.in1) hx hy q1 q2 (by show A.units + 1 + n < cLine; omega)).1
      simpa [List.getElem?_eq_getElem l1, List.getElem?_eq_getElem l2] using this
    by_cases fd : flatD d = true
    · by_cases fe : flatD e = true
      · exact flats fd fe rd re
      · cases e <;> simp [plainD, flatD] at he fe
        · rw [AtH] at re
          obtain ⟨b, js, rfl, tj, rm⟩ := re
          cases d <;> simp only [flatD, Bool.false_eq_true] at fd <;> rw [AtH] at rd
          · subst rd; exact ⟨.none_tuple tj hu0, .none_tuple tj hu0⟩
          · subst rd; exact ⟨.bool_tuple _ tj hu0, .bool_tuple _ tj hu0⟩
          · obtain ⟨t, rfl⟩ := rd; exact ⟨.int_tuple _ _ tj hu0, .int_tuple _ _ tj hu0⟩
          · obtain ⟨t, rfl⟩ := rd; exact ⟨.str_tuple _ _ tj hu0, .str_tuple _ _ tj hu0⟩
        · rw [AtH] at re
          obtain ⟨b, js, rfl, tj, rm⟩ := re
          cases d <;> simp only [flatD, Bool.false_eq_true] at fd <;> rw [AtH] at rd
          · subst rd; exact ⟨.none_list tj hu0, .none_list tj hu0⟩
          · subst rd; exact ⟨.bool_list _ tj hu0, .bool_list _ tj hu0⟩
          · obtain ⟨t, rfl⟩ := rd; exact ⟨.int_list _ _ tj hu0, .int_list _ _ tj hu0⟩
          · obtain ⟨t, rfl⟩ := rd; exact ⟨.str_list _ _ tj hu0, .str_list _ _ tj hu0⟩
    · cases d with
      | tup l =>
        have rd' := rd
        rw [AtH] at rd
        obtain ⟨a, is, rfl, ti, rl⟩ := rd
        cases e with
        | tup m =>
          have re' := re
          rw [AtH] at re
          obtain ⟨b, js, rfl, tj, rm⟩ := re
          have rc : SeqAt.RcAt A s (.ref a) (.ref b) (eqD (.tup l) (.tup m)) := by
            have := SeqAt.RcAt.tuples ti tj hu0 (items l m is js (by simpa [plainD] using hd) (by simpa [plainD] using he) rl rm)
            rw [eqD, eqL_range]
            have e1 : is.toArray.size = l.length := by rw [List.size_toArray, rl.length]
            have e2 : js.toArray.size = m.length := by rw [List.size_toArray, rm.length]
            rw [e1, e2] at this
            exact this
          refine ⟨?_, rc⟩
          by_cases hab : a = b
          · subst hab
            have := AtH.inj (n + 1) hd he rd' re'
            rw [← this, eqD_refl (n + 1) _ hd]
            exact SeqAt.EqAt.same _
          · exact SeqAt.EqAt.of_refs hab rc
        | lst m =>
          rw [AtH] at re
          obtain ⟨b, js, rfl, tj, rm⟩ := re
          exact ⟨.tuple_list ti tj hu0, .tuple_list ti tj hu0⟩
        | fn a => simp [plainD, flatD] at he
        | scr a => simp [plainD, flatD] at he
        | non => rw [AtH] at re; subst re; exact ⟨.tuple_none ti hu0, .tuple_none ti hu0⟩
        | bl b => rw [AtH] at re; subst re; exact ⟨.tuple_bool _ ti hu0, .tuple_bool _ ti hu0⟩
        | int b => rw [AtH] at re; obtain ⟨t, rfl⟩ := re; exact ⟨.tuple_int _ _ ti hu0, .tuple_int _ _ ti hu0⟩
        | str b => rw [AtH] at re; obtain ⟨t, rfl⟩ := re; exact ⟨.tuple_str _ _ ti hu0, .tuple_str _ _ ti hu0⟩
      | lst l =>
        have rd' := rd
        rw [AtH] at rd
        obtain ⟨a, is, rfl, ti, rl⟩ := rd
        cases e with
        | tup m =>
          rw [AtH] at re
          obtain ⟨b, js, rfl, tj, rm⟩ := re
          exact ⟨.list_tuple ti tj hu0, .list_tuple ti tj hu0⟩
        | lst m =>
          have re' := re
          rw [AtH] at re
          obtain ⟨b, js, rfl, tj, rm⟩ := re
          have e1 : is.toArray.size = l.length := by rw [List.size_toArray, rl.length]
          have e2 : js.toArray.size = m.length := by rw [List.size_toArray, rm.length]
          have rc : SeqAt.RcAt A s (.ref a) (.ref b) (eqD (.lst l) (.lst m)) := by
            rw [eqD, eqL_range]
            by_cases hsz : l.length = m.length
            · have := SeqAt.RcAt.lists ti tj (by rw [e1, e2, hsz]) hu0 (items l m is js (by simpa [plainD] using hd) (by simpa [plainD] using he) rl rm)
              rw [e1] at this
              rw [hsz, Nat.min_self, beq_self_eq_true, Bool.and_true, ← hsz]
              exact this
            · have := SeqAt.RcAt.lists_lengths ti tj (by rw [e1, e2]; simpa using hsz) hu0
              rw [show (l.length == m.length) = false by simpa using hsz, Bool.and_false]
              exact this
          refine ⟨?_, rc⟩
          by_cases hab : a = b
          · subst hab
            have := AtH.inj (n + 1) hd he rd' re'
            rw [← this, eqD_refl (n + 1) _ hd]
            exact SeqAt.EqAt.same _
          · exact SeqAt.EqAt.of_refs hab rc
        | fn a => simp [plainD, flatD] at he
        | scr a => simp [plainD, flatD] at he
        | non => rw [AtH] at re; subst re; exact ⟨.list_none ti hu0, .list_none ti hu0⟩
        | bl b => rw [AtH] at re; subst re; exact ⟨.list_bool _ ti hu0, .list_bool _ ti hu0⟩
        | int b => rw [AtH] at re; obtain ⟨t, rfl⟩ := re; exact ⟨.list_int _ _ ti hu0, .list_int _ _ ti hu0⟩
        | str b => rw [AtH] at re; obtain ⟨t, rfl⟩ := re; exact ⟨.list_str _ _ ti hu0, .list_str _ _ ti hu0⟩
      | fn a => simp [plainD, flatD] at hd
      | scr a => simp [plainD, flatD] at hd
      | non => simp [flatD] at fd
      | bl a => simp [flatD] at fd
      | int a => simp [flatD] at fd
      | str a => simp [flatD] at fd

/-! ### x == y, x != y, x in ys, x not in ys -/
section
variable {X : Cx}
def rEqD (K : PySem.W.Frag) : R2 := fun x y H Q => ∃ d e, Rep K H d x ∧ Rep K H e y ∧ plainD 9 d = true ∧ plainD 9 e = true ∧ Q (.bl (eqD d e)) H
theorem op_eqD (hu : X.A.units + 9 < cLine) : OpR X (compareOp .Eq) (rEqD X.K) := by
  intro pins s σ H x y v u Q I rx ry h
  obtain ⟨d, e, rd, re, pd, pe, q⟩ := h
  exact (eqAt_D 9 pd pe (rd.at I pd rx) (re.at I pe ry) hu).2 _ _ _ _ ⟨.bl _, H, I, rfl, q⟩
/-- the answer of an item, read off its value -/
noncomputable def itemEq (K : PySem.W.Frag) (H : Hp) (l : List Dat) (x : Dat) (u : Value) : Bool :=
  open Classical in if h : ∃ d v, d ∈ l ∧ RelV v u ∧ Rep K H d v then eqD (Classical.choose h) x else false
theorem itemEq_is {pins : List (Addr × Obj)} {σ : St} {H : Hp} {s : Shared} (I : Inv X pins σ H s) {l : List Dat} {x d : Dat} {v : V} {u : Value} (hl : l.all (plainD 8) = true) (hd : d ∈ l) (r : RelV v u) (q : Rep X.K H d v) :
    itemEq X.K H l x u = eqD d x := by
  have h : ∃ d v, d ∈ l ∧ RelV v u ∧ Rep X.K H d v := ⟨d, v, hd, r, q⟩
  unfold itemEq
  rw [dif_pos h]
  obtain ⟨v', h1, h2, h3⟩ := Classical.choose_spec h
  have e : v' = v := h2.inj r
  subst e
  have p := List.all_eq_true.mp hl
  rw [Rep.inj I 8 (p _ h1) (p _ hd) h3 q r]
theorem any_itemEq {pins : List (Addr × Obj)} {σ : St} {H : Hp} {s : Shared} (I : Inv X pins σ H s) {x : Dat} {L : List Dat} (hL : L.all (plainD 8) = true) :
    ∀ {l : List Dat} {vs : List V} {us : List Value}, (∀ d ∈ l, d ∈ L) → RepL X.K H l vs → Vals vs us → us.any (itemEq X.K H L x) = l.any fun d => eqD d x
  | [], _, _, _, rl, rv => by rw [RepL] at rl; subst rl; cases rv; rfl
  | d :: l, _, _, hs, rl, rv => by
    rw [RepL] at rl
    obtain ⟨v, r, rfl, r1, r2⟩ := rl
    cases rv with
    | cons q1 q2 =>
      rw [List.any_cons, List.any_cons, itemEq_is I hL (hs d List.mem_cons_self) q1 r1, any_itemEq I hL (fun e he => hs e (List.mem_cons_of_mem _ he)) r2 q2]
theorem mem_itemEq {pins : List (Addr × Obj)} {σ : St} {H : Hp} {s : Shared} (I : Inv X pins σ H s) {x : Dat} {y : V} {w : Value} {A : Around} (hx : plainD 8 x = true) (rx : Rep X.K H x y) (ry : RelV y w) (hu : A.units + 8 < cLine) {L : List Dat} (hL : L.all (plainD 8) = true) :
    ∀ {l : List Dat} {vs : List V} {us : List Value}, (∀ d ∈ l, d ∈ L) → RepL X.K H l vs → Vals vs us → ∀ u ∈ us, SeqAt.EqAt A s u w (itemEq X.K H L x u)
  | [], _, _, _, rl, rv, u, hm => by rw [RepL] at rl; subst rl; cases rv; cases hm
  | d :: l, _, _, hs, rl, rv, u, hm => by
    rw [RepL] at rl
    obtain ⟨v, r, rfl, r1, r2⟩ := rl
    cases rv with
    | cons q1 q2 =>
      rcases List.mem_cons.mp hm with e | hm
      · subst e
        rw [itemEq_is I hL (hs d List.mem_cons_self) q1 r1]
        exact (eqAt_D 8 (List.all_eq_true.mp hL d (hs d List.mem_cons_self)) hx (r1.at I (List.all_eq_true.mp hL d (hs d List.mem_cons_self)) q1) (rx.at I hx ry) hu).1
      · exact mem_itemEq I hx rx ry hu hL (fun e he => hs e (List.mem_cons_of_mem _ he)) r2 q2 u hm
def rInD (K : PySem.W.Frag) (neg : Bool) : R2 := fun x y H Q => ∃ p vs d l, y = .ref p ∧ (H p = some (.lst vs) ∨ SqT K H p vs) ∧ RepL K H l vs ∧ Rep K H d x ∧ plainD 8 d = true ∧ l.all (plainD 8) = true ∧ Q (.bl (if neg then !(l.any fun e => eqD e d) else l.any fun e => eqD e d)) H
theorem op_inD (hu : X.A.units + 9 < cLine) : OpR X (compareOp .In) (rInD X.K false) := by
  intro pins s σ H x y v u Q I rx ry h
  obtain ⟨p, vs, d, l, rfl, hq, rl, rd, pd, pl, q⟩ := h
  cases ry
  have hu' : X.A.in1.units + 8 < cLine := by show X.A.units + 1 + 8 < cLine; omega
  rcases hq with hq | hq
  · obtain ⟨its, r, pll, hz⟩ := I.list (SqL.of hq)
    refine SeqAt.in_listAt (itemEq X.K H l d) pll.isList (fun w hw => mem_itemEq I pd rd rx hu' pl (fun _ h => h) rl r w (by simpa using hw)) ⟨.bl _, H, I, rfl, ?_⟩
    rw [show its.toArray.any (itemEq X.K H l d) = its.any (itemEq X.K H l d) by simp, any_itemEq I pl (fun _ h => h) rl r]
    exact q
  · obtain ⟨its, r, pll, hz⟩ := I.tuple hq
    refine SeqAt.in_tupleAt (itemEq X.K H l d) pll (fun w hw => mem_itemEq I pd rd rx hu' pl (fun _ h => h) rl r w (by simpa using hw)) ⟨.bl _, H, I, rfl, ?_⟩
    rw [show its.toArray.any (itemEq X.K H l d) = its.any (itemEq X.K H l d) by simp, any_itemEq I pl (fun _ h => h) rl r]
    exact q
theorem op_notInD (hu : X.A.units + 9 < cLine) : OpR X (compareOp .NotIn) (rInD X.K true) := by
  intro pins s σ H x y v u Q I rx ry h
  obtain ⟨p, vs, d, l, rfl, hq, rl, rd, pd, pl, q⟩ := h
  cases ry
  have hu' : X.A.in1.units + 8 < cLine := by show X.A.units + 1 + 8 < cLine; omega
  rcases hq with hq | hq
  · obtain ⟨its, r, pll, hz⟩ := I.list (SqL.of hq)
    refine SeqAt.notIn_listAt (itemEq X.K H l d) pll.isList (fun w hw => mem_itemEq I pd rd rx hu' pl (fun _ h => h) rl r w (by simpa using hw)) ⟨.bl _, H, I, rfl, ?_⟩
    rw [show its.toArray.any (itemEq X.K H l d) = its.any (itemEq X.K H l d) by simp, any_itemEq I pl (fun _ h => h) rl r]
    exact q
  · obtain ⟨its, r, pll, hz⟩ := I.tuple hq
    refine SeqAt.notIn_tupleAt (itemEq X.K H l d) pll (fun w hw => mem_itemEq I pd rd rx hu' pl (fun _ h => h) rl r w (by simpa using hw)) ⟨.bl _, H, I, rfl, ?_⟩
    rw [show its.toArray.any (itemEq X.K H l d) = its.any (itemEq X.K H l d) by simp, any_itemEq I pl (fun _ h => h) rl r]
    exact q
end
end TF
set_option Elab.async false
set_option linter.all false
set_option maxRecDepth 100000
set_option maxHeartbeats 1000000
/-! Expressions over data, rule by rule -/
namespace TF
open PySem PySem.Spec L2
open PyProof.Rows hiding St RelV

section
variable {X : Cx} {ρ : Rho} {G : Gs} {e a b c : Expr} {es : List Expr} {d d' d1 d2 : Dat} {ds l m : List Dat} {pos : Pos} {i j k : Int}
/-! ### ints -/
theorem px_add (ha : PX X ρ G a (.int i)) (hb : PX X ρ G b (.int j)) : PX X ρ G (.BinOp a .Add b pos) (.int (i + j)) := px_op op_add ha hb fun H x y Q o hx hy k => ⟨i, j, hx, hy, k _ _ (po1' o rfl)⟩
theorem px_sub (ha : PX X ρ G a (.int i)) (hb : PX X ρ G b (.int j)) : PX X ρ G (.BinOp a .Sub b pos) (.int (i - j)) := px_op op_sub ha hb fun H x y Q o hx hy k => ⟨i, j, hx, hy, k _ _ (po1' o rfl)⟩
theorem px_mul (ha : PX X ρ G a (.int i)) (hb : PX X ρ G b (.int j)) (hc : CMul i j) : PX X ρ G (.BinOp a .Mult b pos) (.int (i * j)) := px_op op_mul ha hb fun H x y Q o hx hy k => ⟨i, j, hx, hy, hc, k _ _ (po1' o rfl)⟩
theorem px_mod (ha : PX X ρ G a (.int i)) (hb : PX X ρ G b (.int j)) (hc : 0 < j) : PX X ρ G (.BinOp a .Mod b pos) (.int (i % j)) := px_op op_mod ha hb fun H x y Q o hx hy k => ⟨i, j, hx, hy, hc, k _ _ (po1' o rfl)⟩
theorem px_fdiv (ha : PX X ρ G a (.int i)) (hb : PX X ρ G b (.int j)) (hc : CDiv i j) : PX X ρ G (.BinOp a .FloorDiv b pos) (.int (i / j)) := px_op op_fdiv ha hb fun H x y Q o hx hy k => ⟨i, j, hx, hy, hc, k _ _ (po1' o rfl)⟩
theorem px_neg (ha : PX X ρ G a (.int i)) : PX X ρ G (.UnaryOp .USub a pos) (.int (-i)) :=
  we_pe (pe_un un_neg pe_we) fun σ H S => ⟨ρ, G, _, ha, S, fun x H1 ⟨_, _, e1, o1, r1, q1, q1'⟩ => by
    subst q1; subst q1'
    exact ⟨i, r1, Po.trans e1 (po1' o1 rfl)⟩⟩

/-! ### comparisons -/
def PXC (X : Cx) (ρ : Rho) (G : Gs) (op : CmpOp) (a b : Expr) (d : Dat) : Prop :=
  ∀ (pins : List (Addr × Obj)) (s : Shared) (σ : St) (H : Hp), Inv X pins σ H s → Stt X H σ ρ G →
    wpAny (model X.prog X.w) X.A (eval a X.env) (fun v s₁ => wpAny (model X.prog X.w) X.A (eval b X.env) (fun u s₂ => wpAny (model X.prog X.w) X.A (compareOp op v u) (EP X pins σ (Po X H G fun d' G' => d' = d ∧ G' = G)) X.xe s₂) X.xe s₁) X.xe s
theorem pxc_op {op : CmpOp} {r : R2} (ho : OpR X (compareOp op) r) (ha : PX X ρ G a d1) (hb : PX X ρ G b d2)
    (hr : ∀ (H : Hp) (x y : V) (Q : VK), GOk X.K H G → Rep X.K (hid H G) d1 x → Rep X.K (hid H G) d2 y → (∀ v H', Po X H G (fun d' G' => d' = d ∧ G' = G) v H' → Q v H') → r x y H Q) : PXC X ρ G op a b d := by
  intro pins s σ H I S
  refine thn (ha pins s σ H I S) fun v s1 ⟨x, H1, I1, rx, _, _, e1, o1, r1, q1, q1'⟩ => ?_
  subst q1; subst q1'
  refine thn (hb pins s1 σ H1 I1 (S.ext e1 o1)) fun u s2 ⟨y, H2, I2, ry, _, _, e2, o2, r2, q2, q2'⟩ => ?_
  subst q2; subst q2'
  exact ho pins s2 σ H2 x y v u _ I2 rx ry (hr H2 x y _ o2 (r1.same e2.hid) r2 fun v H' z => Po.trans (e1.trans e2) z)
theorem px_c {op : CmpOp} (h : PXC X ρ G op a b d) (hm : behindInMarks op b = false := by first | exact nobehind _ (by decide) (by decide) | rfl) : PX X ρ G (.Compare a [op] [b] pos) d := fun pins s σ H I S => wpAny_Compare1 (h pins s σ H I S) hm
theorem pxt_c {op : CmpOp} {p : Bool} (h : PXC X ρ G op a b (.bl p)) (hm : behindInMarks op b = false := by first | exact nobehind _ (by decide) (by decide) | rfl) : PXT X ρ G (.Compare a [op] [b] pos) p := by
  intro pins s σ H I S
  refine wpAny_isTrue_Compare1 (thn (h pins s σ H I S) fun v s1 h1 => thn h1 fun u s2 h2 => thn h2 fun c s3 ⟨x, H1, I1, r1, _, _, e1, o1, q1, q2, q2'⟩ => ?_) hm
  subst q2; subst q2'
  cases (show x = V.bl p from q1)
  cases r1
  exact wpAny_truthy_bool ⟨H1, I1, _, e1, o1, rfl, rfl⟩
theorem pxc_lt (ha : PX X ρ G a (.int i)) (hb : PX X ρ G b (.int j)) : PXC X ρ G .Lt a b (.bl (decide (i < j))) := pxc_op op_lt ha hb fun H x y Q o hx hy k => ⟨i, j, hx, hy, k _ _ (po1' o rfl)⟩
theorem pxc_le (ha : PX X ρ G a (.int i)) (hb : PX X ρ G b (.int j)) : PXC X ρ G .LtE a b (.bl (decide (i ≤ j))) := pxc_op op_le ha hb fun H x y Q o hx hy k => ⟨i, j, hx, hy, k _ _ (po1' o rfl)⟩
theorem pxc_gt (ha : PX X ρ G a (.int i)) (hb : PX X ρ G b (.int j)) : PXC X ρ G .Gt a b (.bl (decide (j < i))) := pxc_op op_gt ha hb fun H x y Q o hx hy k => ⟨i, j, hx, hy, k _ _ (po1' o rfl)⟩
theorem pxc_ge (ha : PX X ρ G a (.int i)) (hb : PX X ρ G b (.int j)) : PXC X ρ G .GtE a b (.bl (decide (j ≤ i))) := pxc_op op_ge ha hb fun H x y Q o hx hy k => ⟨i, j, hx, hy, k _ _ (po1' o rfl)⟩
theorem pxc_eqI (ha : PX X ρ G a (.int i)) (hb : PX X ρ G b (.int j)) : PXC X ρ G .Eq a b (.bl (i == j)) :=
  pxc_op op_eq ha hb fun H x y Q o hx hy k => by
    cases (show x = V.int i from hx); cases (show y = V.int j from hy)
    exact ⟨rfl, by rw [dec_int]; exact k _ _ (po1' o rfl)⟩
theorem pxc_neI (ha : PX X ρ G a (.int i)) (hb : PX X ρ G b (.int j)) : PXC X ρ G .NotEq a b (.bl (!(i == j))) :=
  pxc_op op_ne ha hb fun H x y Q o hx hy k => by
    cases (show x = V.int i from hx); cases (show y = V.int j from hy)
    exact ⟨rfl, by rw [dec_int]; exact k _ _ (po1' o rfl)⟩
theorem pxc_eq (hu : X.A.units + 9 < cLine) (ha : PX X ρ G a d1) (hb : PX X ρ G b d2) (p1 : plainD 9 d1 = true) (p2 : plainD 9 d2 = true) : PXC X ρ G .Eq a b (.bl (eqD d1 d2)) :=
  pxc_op (op_eqD hu) ha hb fun H x y Q o hx hy k => ⟨d1, d2, hx.same hid_le, hy.same hid_le, p1, p2, k _ _ (po1' o rfl)⟩
theorem in_of {H : Hp} {K : PySem.W.Frag} {y : V} (hy : Rep K (hid H G) (.tup l) y ∨ Rep K (hid H G) (.lst l) y) : ∃ p vs, y = .ref p ∧ (H p = some (.lst vs) ∨ SqT K H p vs) ∧ RepL K H l vs := by
  rcases hy with hy | hy
  · rw [Rep] at hy
    obtain ⟨p, vs, e, h1, h2⟩ := hy
    exact ⟨p, vs, e, .inr (sqT_same hid_le h1), h2.same hid_le⟩
  · rw [Rep] at hy
    obtain ⟨p, vs, e, h1, h2⟩ := hy
    exact ⟨p, vs, e, .inl (hid_le _ _ h1), h2.same hid_le⟩
theorem pxc_in (hu : X.A.units + 9 < cLine) (ha : PX X ρ G a d1) (hb : PX X ρ G b d2) (hl : d2 = .tup l ∨ d2 = .lst l) (p1 : plainD 8 d1 = true) (p2 : l.all (plainD 8) = true) : PXC X ρ G .In a b (.bl (l.any fun e => eqD e d1)) :=
  pxc_op (op_inD hu) ha hb fun H x y Q o hx hy k => by
    obtain ⟨p, vs, e, h1, h2⟩ := in_of (H := H) (G := G) (l := l) (K := X.K) (y := y) (by rcases hl with z | z <;> subst z; exact .inl hy; exact .inr hy)
    exact ⟨p, vs, d1, l, e, h1, h2, hx.same hid_le, p1, p2, k _ _ (po1' o rfl)⟩
theorem pxc_notIn (hu : X.A.units + 9 < cLine) (ha : PX X ρ G a d1) (hb : PX X ρ G b d2) (hl : d2 = .tup l ∨ d2 = .lst l) (p1 : plainD 8 d1 = true) (p2 : l.all (plainD 8) = true) : PXC X ρ G .NotIn a b (.bl (!(l.any fun e => eqD e d1))) :=
  pxc_op (op_notInD hu) ha hb fun H x y Q o hx hy k => by
    obtain ⟨p, vs, e, h1, h2⟩ := in_of (H := H) (G := G) (l := l) (K := X.K) (y := y) (by rcases hl with z | z <;> subst z; exact .inl hy; exact .inr hy)
    exact ⟨p, vs, d1, l, e, h1, h2, hx.same hid_le, p1, p2, k _ _ (po1' o rfl)⟩
/-! ### and, or, not -/
theorem px_one {op} (h : PX X ρ G a d) : PX X ρ G (.BoolOp op [a] pos) d := fun pins s σ H I S => BoolOp_one (h pins s σ H I S)
theorem px_and {rest : List Expr} {p q : Bool} (ha : PX X ρ G a (.bl p)) (hb : p = true → PX X ρ G (.BoolOp .And (b :: rest) pos) (.bl q)) : PX X ρ G (.BoolOp .And (a :: b :: rest) pos) (.bl (p && q)) := by
  intro pins s σ H I S
  refine BoolOp_and (thn (ha pins s σ H I S) fun v s1 ⟨x, H1, I1, r1, _, _, e1, o1, rx, q1, q1'⟩ => ?_)
  subst q1; subst q1'
  cases (show x = V.bl p from rx)
  cases r1
  refine wpAny_truthy_bool ?_
  cases p with
  | true => exact thn (hb rfl pins s1 σ H1 I1 (S.ext e1 o1)) fun _ _ z => EP.mono z fun _ _ y => Po.trans e1 y
  | false => exact ⟨.bl false, H1, I1, rfl, .bl false, _, e1, o1, rfl, rfl, rfl⟩
theorem px_or {rest : List Expr} {p q : Bool} (ha : PX X ρ G a (.bl p)) (hb : p = false → PX X ρ G (.BoolOp .Or (b :: rest) pos) (.bl q)) : PX X ρ G (.BoolOp .Or (a :: b :: rest) pos) (.bl (p || q)) := by
  intro pins s σ H I S
  refine BoolOp_or (thn (ha pins s σ H I S) fun v s1 ⟨x, H1, I1, r1, _, _, e1, o1, rx, q1, q1'⟩ => ?_)
  subst q1; subst q1'
  cases (show x = V.bl p from rx)
  cases r1
  refine wpAny_truthy_bool ?_
  cases p with
  | false => exact thn (hb rfl pins s1 σ H1 I1 (S.ext e1 o1)) fun _ _ z => EP.mono z fun _ _ y => Po.trans e1 y
  | true => exact ⟨.bl true, H1, I1, rfl, .bl true, _, e1, o1, rfl, rfl, rfl⟩
theorem px_not {p : Bool} (ha : PX X ρ G a (.bl p)) : PX X ρ G (.UnaryOp .Not a pos) (.bl (!p)) := by
  intro pins s σ H I S
  refine UnaryOp_ (thn (ha pins s σ H I S) fun v s1 ⟨x, H1, I1, r1, _, _, e1, o1, rx, q1, q1'⟩ => ?_)
  subst q1; subst q1'
  cases (show x = V.bl p from rx)
  cases r1
  exact not_of (wpAny_truthy_bool ⟨.bl (!p), H1, I1, rfl, .bl (!p), _, e1, o1, rfl, rfl, rfl⟩)
/-! tests -/
def PXW (X : Cx) (ρ : Rho) (G : Gs) (e : Expr) (b : Bool) : Prop :=
  ∀ (whole : Sem Value) (pins : List (Addr × Obj)) (s : Shared) (σ : St) (H : Hp), Inv X pins σ H s → Stt X H σ ρ G → wpAny (model X.prog X.w) X.A (isTrue e X.env whole) (TP X pins σ (PoT X H G fun b' G' => b' = b ∧ G' = G)) X.xe s
theorem PXW.t {p : Bool} (h : PXW X ρ G e p) : PXT X ρ G e p := fun pins s σ H I S => h _ pins s σ H I S
theorem pxt_mono {p : Bool} {Q : Bool → Gs → Prop} (h : PXT X ρ G e p) (q : Q p G) : WT X ρ G e Q := fun pins s σ H I S => thn (h pins s σ H I S) fun _ _ z => TP.mono z fun _ _ ⟨_, e, o, q1, q2⟩ => by
  subst q1; subst q2; exact ⟨_, e, o, q⟩
theorem pxw_and1 {p : Bool} (h : PXT X ρ G a p) : PXW X ρ G (.BoolOp .And [a] pos) p := by
  intro wh pins s σ H I S
  refine isTrue_and (thn (h pins s σ H I S) fun c s1 e => ?_)
  cases c with
  | true => exact isTrue_and_nil e
  | false => exact e
theorem pxw_or1 {p : Bool} (h : PXT X ρ G a p) : PXW X ρ G (.BoolOp .Or [a] pos) p := by
  intro wh pins s σ H I S
  refine isTrue_or (thn (h pins s σ H I S) fun c s1 e => ?_)
  cases c with
  | false => exact isTrue_or_nil e
  | true => exact e
theorem pxw_and {rest : List Expr} {p q : Bool} (ha : PXT X ρ G a p) (hb : p = true → PXW X ρ G (.BoolOp .And (b :: rest) pos) q) : PXW X ρ G (.BoolOp .And (a :: b :: rest) pos) (p && q) := by
  intro wh pins s σ H I S
  refine isTrue_and (thn (ha pins s σ H I S) fun c s1 ⟨H1, I1, _, e1, o1, q1, q2⟩ => ?_)
  subst q1; subst q2
  cases c with
  | true => exact thn (hb rfl wh pins s1 σ H1 I1 (S.ext e1 o1)) fun _ _ z => TP.mono z fun _ _ y => PoT.trans e1 y
  | false => exact ⟨H1, I1, _, e1, o1, rfl, rfl⟩
theorem pxw_or {rest : List Expr} {p q : Bool} (ha : PXT X ρ G a p) (hb : p = false → PXW X ρ G (.BoolOp .Or (b :: rest) pos) q) : PXW X ρ G (.BoolOp .Or (a :: b :: rest) pos) (p || q) := by
  intro wh pins s σ H I S
  refine isTrue_or (thn (ha pins s σ H I S) fun c s1 ⟨H1, I1, _, e1, o1, q1, q2⟩ => ?_)
  subst q1; subst q2
  cases c with
  | false => exact thn (hb rfl wh pins s1 σ H1 I1 (S.ext e1 o1)) fun _ _ z => TP.mono z fun _ _ y => PoT.trans e1 y
  | true => exact ⟨H1, I1, _, e1, o1, rfl, rfl⟩
theorem pxt_not {p : Bool} (ha : PXT X ρ G a p) : PXT X ρ G (.UnaryOp .Not a pos) (!p) := by
  intro pins s σ H I S
  refine isTrue_not (Q := TP X pins σ (PoT X H G fun b' G' => b' = (!p) ∧ G' = G)) (thn (ha pins s σ H I S) fun c s1 ⟨H1, I1, _, e1, o1, q1, q2⟩ => ?_)
  subst q1; subst q2
  exact ⟨H1, I1, _, e1, o1, rfl, rfl⟩
/-- a value that is a bool, as a test -/
theorem pxt_val {p : Bool} (h : PX X ρ G e (.bl p)) (he : ∀ whole, isTrue e X.env whole = (do let v ← whole; standAt e.pos; holding [v] (truthy v)) := by intro _; rfl) : PXT X ρ G e p := by
  intro pins s σ H I S
  refine isTrue_plain (thn (h pins s σ H I S) fun v s1 ⟨x, H1, I1, r1, _, _, e1, o1, rx, q1, q1'⟩ => ?_) (he _)
  subst q1; subst q1'
  cases (show x = V.bl p from rx)
  cases r1
  exact wpAny_truthy_bool ⟨H1, I1, _, e1, o1, rfl, rfl⟩
/-- the truth of data -/
def truD : Dat → Option Bool
  | .non => some false
  | .bl b => some b
  | .int i => some (i != 0)
  | .tup l => some (!l.isEmpty)
  | .lst l => some (!l.isEmpty)
  | _ => none
theorem truV_of {K : PySem.W.Frag} {H : Hp} {v : V} {p : Bool} (h : truD d = some p) (r : Rep K (hid H G) d v) : TruV K v H p := by
  cases d <;> simp only [truD, Option.some.injEq, reduceCtorEq] at h <;> subst h <;> rw [Rep] at r
  · subst r; rfl
  · subst r; rfl
  · subst r; rfl
  · obtain ⟨a, vs, rfl, h1, h2⟩ := r
    refine .inr (.inl ⟨vs, sqT_same hid_le h1, ?_⟩)
    have := h2.length
    rename_i l
    cases l <;> cases vs <;> simp_all
  · obtain ⟨a, vs, rfl, h1, h2⟩ := r
    refine .inl ⟨vs, SqL.of (hid_le _ _ h1), ?_⟩
    have := h2.length
    rename_i l
    cases l <;> cases vs <;> simp_all
theorem pxt_truth {p : Bool} (h : PX X ρ G e d) (ht : truD d = some p) (he : ∀ whole, isTrue e X.env whole = (do let v ← whole; standAt e.pos; holding [v] (truthy v)) := by intro _; rfl) : PXT X ρ G e p :=
  wt_pt (pt_truth pe_we he) fun σ H S => ⟨ρ, G, _, h, S, fun x H1 ⟨_, _, e1, o1, r1, q1, q1'⟩ => by
    subst q1; subst q1'
    exact ⟨p, truV_of ht r1, _, e1, o1, rfl, rfl⟩⟩

/-! ### displays -/
theorem pxs_nil : PXs X ρ G [] [] := wa_pa pa_nil fun σ H S => ⟨[], G, Ext.refl, S.own, RepL.nil, rfl, rfl⟩
theorem pxs_cons (ha : PX X ρ G e d) (hr : PXs X ρ G es ds) (hs : starEach (e :: es) X.env = (false, eval e X.env) :: starEach es X.env := by rfl) : PXs X ρ G (e :: es) (d :: ds) :=
  wa_pa (pa_cons pe_we pa_wa hs) fun σ H S => ⟨ρ, G, _, ha, S, fun x H1 ⟨_, _, e1, o1, r1, q1, q1'⟩ => by
    subst q1; subst q1'
    refine ⟨ρ, _, _, hr, S.ext e1 o1, fun xs H2 ⟨_, _, e2, o2, r2, q2, q2'⟩ => ?_⟩
    subst q2; subst q2'
    exact ⟨_, _, e1.trans e2, o2, RepL.cons (r1.same e2.hid) r2, rfl, rfl⟩⟩
theorem new_tup {H : Hp} {p : Addr} {vs : List V} (o : GOk X.K H G) (hp : H p = none) (r : RepL X.K (hid H G) ds vs) : Po X H G (fun d' G' => d' = .tup ds ∧ G' = G) (.ref p) (upd H p (.tup vs)) :=
  po1 (Ext.alloc hp) (o.alloc hp) (by rw [Rep]; exact ⟨p, vs, rfl, SqT.of (hid_of (o.free hp) upd_same), r.same (Ext.alloc hp).hid⟩)
theorem new_lst {H : Hp} {p : Addr} {vs : List V} (o : GOk X.K H G) (hp : H p = none) (r : RepL X.K (hid H G) ds vs) : Po X H G (fun d' G' => d' = .lst ds ∧ G' = G) (.ref p) (upd H p (.lst vs)) :=
  po1 (Ext.alloc hp) (o.alloc hp) (by rw [Rep]; exact ⟨p, vs, rfl, hid_of (o.free hp) upd_same, r.same (Ext.alloc hp).hid⟩)
theorem px_tup {x1} (h : PXs X ρ G es ds) (hz : ds.length ≤ 1000 := by first | decide | (simp; done)) : PX X ρ G (.Tuple es x1 pos) (.tup ds) :=
  we_pe (pe_tup pa_wa) fun σ H S => ⟨ρ, G, _, h, S, fun vs H1 ⟨_, _, e1, o1, r1, q1, q1'⟩ => by
    subst q1; subst q1'
    exact ⟨by rw [r1.length]; exact Nat.le_of_lt (small1000 hz), fun p hp => Po.trans e1 (new_tup o1 hp r1)⟩⟩
theorem px_lst (h : PXs X ρ G es ds) (hz : ds.length ≤ 1000 := by first | decide | (simp; done)) : PX X ρ G (.List es pos) (.lst ds) :=
  we_pe (pe_lst pa_wa) fun σ H S => ⟨ρ, G, _, h, S, fun vs H1 ⟨_, _, e1, o1, r1, q1, q1'⟩ => by
    subst q1; subst q1'
    exact ⟨by rw [r1.length]; exact Nat.le_of_lt (small1000 hz), fun p hp => Po.trans e1 (new_lst o1 hp r1)⟩⟩

/-! ### + of lists and tuples -/
theorem px_cat (ha : PX X ρ G a (.lst l)) (hb : PX X ρ G b (.lst m)) (hz : l.length + m.length ≤ sizeLine) : PX X ρ G (.BinOp a .Add b pos) (.lst (l ++ m)) :=
  px_op op_cat ha hb fun H x y Q o hx hy k => by
    rw [Rep] at hx hy
    obtain ⟨p, vs, e1, h1, r1⟩ := hx
    obtain ⟨q, us, e2, h2, r2⟩ := hy
    exact ⟨p, q, vs, us, e1, e2, hid_le _ _ h1, hid_le _ _ h2, by rw [r1.length, r2.length]; exact hz, fun t ht => k _ _ (new_lst o ht (r1.append r2))⟩
theorem px_catT (ha : PX X ρ G a (.tup l)) (hb : PX X ρ G b (.tup m)) (hl : l ≠ []) (hz : l.length + m.length ≤ sizeLine) : PX X ρ G (.BinOp a .Add b pos) (.tup (l ++ m)) :=
  px_op op_catT ha hb fun H x y Q o hx hy k => by
    have hx' := hx
    rw [Rep] at hx hy
    obtain ⟨p, vs, e1, h1, r1⟩ := hx
    obtain ⟨q, us, e2, h2, r2⟩ := hy
    refine ⟨p, q, vs, us, e1, e2, sqT_same hid_le h1, sqT_same hid_le h2, ?_, by rw [r1.length, r2.length]; exact hz, fun z => ?_, fun _ t ht => k _ _ (new_tup o ht (r1.append r2))⟩
    · intro z; subst z; have := r1.length; cases l <;> simp_all
    · have hm : m = [] := by have := r2.length; rw [z] at this; cases m <;> simp_all
      subst hm
      rw [← e1]
      exact k _ _ (po1' o (by rw [List.append_nil]; exact hx'))

/-! ### subscripts -/
theorem atI_rep {K : PySem.W.Frag} {H : Hp} {vs : List V} (r : RepL K H l vs) (h : atI l i = some d) : ∃ v, atI vs i = some v ∧ Rep K H d v := by
  unfold atI at h ⊢
  rw [r.length]
  cases q : ixN l.length i with
  | none => rw [q] at h; cases h
  | some j => rw [q] at h; exact r.get h
theorem px_ixT (ha : PX X ρ G a (.tup l)) (hb : PX X ρ G b (.int i)) (hi : atI l i = some d) (hs : PlainIx b := by intro _ _; rfl) : PX X ρ G (.Subscript a b pos) d :=
  we_pe (pe_ix ix_tup pe_we pe_we hs) fun σ H S => ⟨ρ, G, _, ha, S, fun x H1 ⟨_, _, e1, o1, r1, q1, q1'⟩ => by
    subst q1; subst q1'
    refine ⟨ρ, _, _, hb, S.ext e1 o1, fun y H2 ⟨_, _, e2, o2, r2, q2, q2'⟩ => ?_⟩
    subst q2; subst q2'
    have r1 := r1.same e2.hid
    rw [Rep] at r1
    obtain ⟨p, vs, e3, h3, r3⟩ := r1
    obtain ⟨v, h4, r4⟩ := atI_rep r3 hi
    exact ⟨p, vs, i, v, e3, r2, sqT_same hid_le h3, h4, Po.trans (e1.trans e2) (po1' o2 r4)⟩⟩
theorem px_ixL (ha : PX X ρ G a (.lst l)) (hb : PX X ρ G b (.int i)) (hi : atI l i = some d) (hs : PlainIx b := by intro _ _; rfl) : PX X ρ G (.Subscript a b pos) d :=
  we_pe (pe_ix ix_list pe_we pe_we hs) fun σ H S => ⟨ρ, G, _, ha, S, fun x H1 ⟨_, _, e1, o1, r1, q1, q1'⟩ => by
    subst q1; subst q1'
    refine ⟨ρ, _, _, hb, S.ext e1 o1, fun y H2 ⟨_, _, e2, o2, r2, q2, q2'⟩ => ?_⟩
    subst q2; subst q2'
    have r1 := r1.same e2.hid
    rw [Rep] at r1
    obtain ⟨p, vs, e3, h3, r3⟩ := r1
    obtain ⟨v, h4, r4⟩ := atI_rep r3 hi
    exact ⟨p, vs, i, v, e3, r2, SqL.of (hid_le _ _ h3), h4, Po.trans (e1.trans e2) (po1' o2 r4)⟩⟩
theorem px_ixS {ns : List Int} {z : Int} (ha : PX X ρ G a (.scr ns)) (hb : PX X ρ G b (.int i)) (hi : atI ns i = some z) (hs : PlainIx b := by intro _ _; rfl) : PX X ρ G (.Subscript a b pos) (.int z) :=
  we_pe (pe_ix ix_list pe_we pe_we hs) fun σ H S => ⟨ρ, G, _, ha, S, fun x H1 ⟨_, _, e1, o1, r1, q1, q1'⟩ => by
    subst q1; subst q1'
    refine ⟨ρ, _, _, hb, S.ext e1 o1, fun y H2 ⟨_, _, e2, o2, r2, q2, q2'⟩ => ?_⟩
    subst q2; subst q2'
    have r1 := r1.same e2.hid
    rw [Rep] at r1
    obtain ⟨p, e3, h3⟩ := r1
    refine ⟨p, _, i, V.int z, e3, r2, Same.seq hid_le h3, ?_, Po.trans (e1.trans e2) (po1' o2 rfl)⟩
    unfold atI at hi ⊢
    rw [List.length_map]
    cases q : ixN ns.length i with
    | none => rw [q] at hi; cases hi
    | some j => rw [q] at hi; show (ns.map V.int)[j]? = _; rw [List.getElem?_map, show ns[j]? = some z from hi]; rfl⟩
/-- an item of a list that the code may change -/
theorem px_ixO {p : Addr} (ha : PX X ρ G a (.fn p)) (hb : PX X ρ G b (.int i)) (hG : G p = some (.lst l)) (hi : atI l i = some d) (hs : PlainIx b := by intro _ _; rfl) : PX X ρ G (.Subscript a b pos) d :=
  we_pe (pe_ix ix_list pe_we pe_we hs) fun σ H S => ⟨ρ, G, _, ha, S, fun x H1 ⟨_, _, e1, o1, r1, q1, q1'⟩ => by
    subst q1; subst q1'
    refine ⟨ρ, _, _, hb, S.ext e1 o1, fun y H2 ⟨_, _, e2, o2, r2, q2, q2'⟩ => ?_⟩
    subst q2; subst q2'
    obtain ⟨vs, h3, r3⟩ := o2 p _ hG
    obtain ⟨v, h4, r4⟩ := atI_rep r3 hi
    exact ⟨p, vs, i, v, r1, r2, SqL.of h3, h4, Po.trans (e1.trans e2) (po1' o2 r4)⟩⟩

/-! ### built-ins of one argument -/
theorem px_call1 {f : Str} {id : String} {r : List V → Hp → VK → Prop} {p : Pos} (hc : CallR X (.builtin id) r) (hg : Gl X f) (hm : X.mg f = none) (hv : bootBuiltins f = some (.builtin id)) (ha : PX X ρ G a d1)
    (hr : ∀ (H : Hp) (x : V) (Q : VK), GOk X.K H G → Rep X.K (hid H G) d1 x → (∀ v H', Po X H G (fun d' G' => d' = d ∧ G' = G) v H' → Q v H') → r [x] H Q)
    (hn : f ≠ "__name__" := by decide) (hdb : (f == ("__debug__" : Str)) = false := by decide) (he : starEach [a] X.env = (false, eval a X.env) :: starEach [] X.env := by rfl) : PX X ρ G (.Call (.Name f p) [a] [] pos) d :=
  we_pe (pe_callB hc hg hm hv (pa_cons pe_we pa_nil he) hn hdb he rfl) fun σ H S => ⟨ρ, G, _, ha, S, fun x H1 ⟨_, _, e1, o1, r1, q1, q1'⟩ => by
    subst q1; subst q1'
    exact hr H1 x _ o1 r1 fun v H' z => Po.trans e1 z⟩
theorem px_callT1 {f : Str} {T : String} {r : List V → Hp → VK → Prop} {p : Pos} (hc : CallR X (.type T) r) (hg : Gl X f) (hm : X.mg f = none) (hv : bootBuiltins f = some (.type T)) (ha : PX X ρ G a d1)
    (hr : ∀ (H : Hp) (x : V) (Q : VK), GOk X.K H G → Rep X.K (hid H G) d1 x → (∀ v H', Po X H G (fun d' G' => d' = d ∧ G' = G) v H' → Q v H') → r [x] H Q)
    (hn : f ≠ "__name__" := by decide) (hdb : (f == ("__debug__" : Str)) = false := by decide) (he : starEach [a] X.env = (false, eval a X.env) :: starEach [] X.env := by rfl) : PX X ρ G (.Call (.Name f p) [a] [] pos) d :=
  we_pe (pe_callTy hc hg hm hv (pa_cons pe_we pa_nil he) hn hdb he rfl) fun σ H S => ⟨ρ, G, _, ha, S, fun x H1 ⟨_, _, e1, o1, r1, q1, q1'⟩ => by
    subst q1; subst q1'
    exact hr H1 x _ o1 r1 fun v H' z => Po.trans e1 z⟩
def lenD (G : Gs) : Dat → Option Nat
  | .tup l => some l.length
  | .lst l => some l.length
  | .scr ns => some ns.length
  | .fn p => match G p with | some (.lst l) => some l.length | _ => none
  | _ => none
theorem lenD_of {K : PySem.W.Frag} {H : Hp} {v : V} {n : Nat} (h : lenD G d = some n) (o : GOk K H G) (r : Rep K (hid H G) d v) : ∃ p ys, v = .ref p ∧ (SqL K H p ys ∨ SqT K H p ys) ∧ ys.length = n := by
  cases d <;> simp only [lenD, Option.some.injEq, reduceCtorEq] at h <;> rw [Rep] at r
  · split at h
    · rename_i p l hG
      cases h
      obtain ⟨vs, h3, r3⟩ := o _ _ hG
      exact ⟨_, vs, r, .inl (SqL.of h3), r3.length⟩
    · cases h
  · obtain ⟨p, e, q⟩ := r
    exact ⟨p, _, e, .inl (Same.seq hid_le q), by rw [List.length_map]; exact h⟩
  · obtain ⟨p, vs, e, q, r⟩ := r
    exact ⟨p, vs, e, .inr (sqT_same hid_le q), by rw [r.length]; exact h⟩
  · obtain ⟨p, vs, e, q, r⟩ := r
    exact ⟨p, vs, e, .inl (SqL.of (hid_le _ _ q)), by rw [r.length]; exact h⟩
theorem px_len {n : Nat} {p : Pos} (hg : Gl X "len") (hm : X.mg "len" = none) (ha : PX X ρ G a d1) (h : lenD G d1 = some n) (he : starEach [a] X.env = (false, eval a X.env) :: starEach [] X.env := by rfl) : PX X ρ G (.Call (.Name "len" p) [a] [] pos) (.int n) :=
  px_call1 call_len_seq hg hm PySem.boot_len ha (fun H x Q o r k => by
    obtain ⟨q, ys, e, hq, hl⟩ := lenD_of h o r
    exact ⟨q, ys, by rw [e], hq, k _ _ (po1' o (by rw [hl]; rfl))⟩) (he := he)
theorem px_tupleL {p : Pos} (hg : Gl X "tuple") (hm : X.mg "tuple" = none) (hv : bootBuiltins "tuple" = some (.type "tuple")) (ha : PX X ρ G a (.lst l)) (he : starEach [a] X.env = (false, eval a X.env) :: starEach [] X.env := by rfl) : PX X ρ G (.Call (.Name "tuple" p) [a] [] pos) (.tup l) :=
  px_callT1 call_tuple_of hg hm hv ha (fun H x Q o r k => by
    rw [Rep] at r
    obtain ⟨q, vs, e, h1, r1⟩ := r
    exact ⟨q, vs, by rw [e], .inl ⟨SqL.of (hid_le _ _ h1), fun t ht => k _ _ (new_tup o ht r1)⟩⟩) (he := he)
theorem px_listT {p : Pos} (hg : Gl X "list") (hm : X.mg "list" = none) (hv : bootBuiltins "list" = some (.type "list")) (ha : PX X ρ G a (.tup l)) (he : starEach [a] X.env = (false, eval a X.env) :: starEach [] X.env := by rfl) : PX X ρ G (.Call (.Name "list" p) [a] [] pos) (.lst l) :=
  px_callT1 call_list_of hg hm hv ha (fun H x Q o r k => by
    rw [Rep] at r
    obtain ⟨q, vs, e, h1, r1⟩ := r
    exact ⟨q, vs, by rw [e], .inr (sqT_same hid_le h1), fun t ht => k _ _ (new_lst o ht r1)⟩) (he := he)
end
end TF
set_option Elab.async false
set_option linter.all false
set_option maxRecDepth 100000
set_option maxHeartbeats 1000000
/-! Statements over data -/
namespace TF
open PySem PySem.Spec L2
open PyProof.Rows hiding St RelV

structure DE where
  nx : Rho → Gs → Prop
  rt : Dat → Gs → Prop
  bk : Rho → Gs → Prop := fun _ _ => False
  ct : Rho → Gs → Prop := fun _ _ => False
def lft (X : Cx) (H : Hp) (G : Gs) (q : Rho → Gs → Prop) : St → Hp → Prop := fun σ' H' => ∃ ρ' G', Ext H G H' G' ∧ Stt X H' σ' ρ' G' ∧ q ρ' G'
def lift (X : Cx) (H : Hp) (G : Gs) (D : DE) : Ends where
  nx := lft X H G D.nx
  rt := Po X H G D.rt
  bk := lft X H G D.bk
  ct := lft X H G D.ct
def WS (X : Cx) (ρ : Rho) (G : Gs) (st : Stmt) (D : DE) : Prop :=
  ∀ (pins : List (Addr × Obj)) (s : Shared) (σ : St) (H : Hp), Inv X pins σ H s → Stt X H σ ρ G → wpAny (model X.prog X.w) X.A (exec st X.env) (SP X pins (lift X H G D)) X.xe s
def WSs (X : Cx) (ρ : Rho) (G : Gs) (st : List Stmt) (D : DE) : Prop :=
  ∀ (pins : List (Addr × Obj)) (s : Shared) (σ : St) (H : Hp), Inv X pins σ H s → Stt X H σ ρ G → wpAny (model X.prog X.w) X.A (execs st X.env) (SP X pins (lift X H G D)) X.xe s

theorem SP.le {X : Cx} {pins : List (Addr × Obj)} {D D' : Ends} {f : Flow} {s : Shared} (h : SP X pins D f s) (h1 : ∀ σ H, D.nx σ H → D'.nx σ H) (h2 : ∀ v H, D.rt v H → D'.rt v H) (h3 : ∀ σ H, D.bk σ H → D'.bk σ H) (h4 : ∀ σ H, D.ct σ H → D'.ct σ H) : SP X pins D' f s := by
  cases f with
  | next => obtain ⟨σ, H, I, q⟩ := h; exact ⟨σ, H, I, h1 _ _ q⟩
  | brk => obtain ⟨σ, H, I, q⟩ := h; exact ⟨σ, H, I, h3 _ _ q⟩
  | cont => obtain ⟨σ, H, I, q⟩ := h; exact ⟨σ, H, I, h4 _ _ q⟩
  | ret u => obtain ⟨v, σ, H, I, r, q⟩ := h; exact ⟨v, σ, H, I, r, h2 _ _ q⟩
theorem lft_trans {X : Cx} {H H1 : Hp} {G G1 : Gs} {q : Rho → Gs → Prop} (e : Ext H G H1 G1) {σ : St} {H' : Hp} (h : lft X H1 G1 q σ H') : lft X H G q σ H' := let ⟨ρ', G', e', S, q⟩ := h; ⟨ρ', G', e.trans e', S, q⟩
theorem lft_mono {X : Cx} {H : Hp} {G : Gs} {q q' : Rho → Gs → Prop} (k : ∀ ρ G, q ρ G → q' ρ G) {σ : St} {H' : Hp} (h : lft X H G q σ H') : lft X H G q' σ H' := let ⟨ρ', G', e', S, q⟩ := h; ⟨ρ', G', e', S, k _ _ q⟩
theorem SP.trans {X : Cx} {pins : List (Addr × Obj)} {D : DE} {f : Flow} {s : Shared} {H H1 : Hp} {G G1 : Gs} (e : Ext H G H1 G1) (h : SP X pins (lift X H1 G1 D) f s) : SP X pins (lift X H G D) f s :=
  SP.le h (fun _ _ q => lft_trans e q) (fun _ _ q => Po.trans e q) (fun _ _ q => lft_trans e q) (fun _ _ q => lft_trans e q)

section
variable {X : Cx} {ρ : Rho} {G : Gs} {e a b c : Expr} {es : List Expr} {d d' d1 d2 : Dat} {ds l m : List Dat} {pos : Pos} {D : DE} {rest body : List Stmt} {st : Stmt}
theorem wss_nil (h : D.nx ρ G) : WSs X ρ G [] D := fun pins s σ H I S => wpAny_execs_nil ⟨σ, H, I, ρ, G, Ext.refl, S, h⟩
theorem wss_cons (h : WS X ρ G st { D with nx := fun ρ' G' => WSs X ρ' G' rest D }) : WSs X ρ G (st :: rest) D := by
  intro pins s σ H I S
  refine wpAny_execs_cons (thn (h pins s σ H I S) fun f s1 q => ?_)
  cases f with
  | next =>
    obtain ⟨σ', H', I', ρ', G', e', S', q⟩ := q
    exact thn (q pins s1 σ' H' I' S') fun _ _ z => SP.trans e' z
  | ret v => exact q
  | brk => exact q
  | cont => exact q
theorem ws_ps {t : TS} (h : PS X st t) (hq : ∀ σ H, Stt X H σ ρ G → t (lift X H G D) σ H) : WS X ρ G st D := fun pins s σ H I S => h pins s σ H _ I (hq σ H S)
def tWSs (X : Cx) (st : List Stmt) : TS := fun D' σ H => ∃ ρ G D, WSs X ρ G st D ∧ Stt X H σ ρ G ∧ (∀ σ' H', (lift X H G D).nx σ' H' → D'.nx σ' H') ∧ (∀ v H', (lift X H G D).rt v H' → D'.rt v H') ∧ (∀ σ' H', (lift X H G D).bk σ' H' → D'.bk σ' H') ∧ (∀ σ' H', (lift X H G D).ct σ' H' → D'.ct σ' H')
theorem pss_ws {st : List Stmt} : PSs X st (tWSs X st) := fun pins s σ H D' I ⟨ρ, G, D, h, S, h1, h2, h3, h4⟩ => thn (h pins s σ H I S) fun _ _ q => SP.le q h1 h2 h3 h4
theorem WSs.mono {st : List Stmt} {D' : DE} (h : WSs X ρ G st D) (h1 : ∀ ρ G, D.nx ρ G → D'.nx ρ G) (h2 : ∀ d G, D.rt d G → D'.rt d G) (h3 : ∀ ρ G, D.bk ρ G → D'.bk ρ G) (h4 : ∀ ρ G, D.ct ρ G → D'.ct ρ G) : WSs X ρ G st D' := fun pins s σ H I S =>
  thn (h pins s σ H I S) fun _ _ q => SP.le q (fun _ _ z => lft_mono h1 z) (fun _ _ z => Po.mono z h2) (fun _ _ z => lft_mono h3 z) (fun _ _ z => lft_mono h4 z)

/-! ### return, pass, drop -/
theorem wss_retE (h : WE X ρ G e D.rt) : WSs X ρ G (.Return (some e) pos :: rest) D := wss_cons fun pins s σ H I S =>
  wpAny_Return_some (thn (h pins s σ H I S) fun v s1 ⟨x, H1, I1, r1, q1⟩ => ⟨x, σ, H1, I1, r1, q1⟩)
theorem wss_ret (h : PX X ρ G e d) (q : D.rt d G) : WSs X ρ G (.Return (some e) pos :: rest) D := wss_retE (h.we q)
theorem wss_exprE (h : WE X ρ G e fun _ G' => WSs X ρ G' rest D) (hs : swapsWith e none pos.line X.env = pure false := by rfl) : WSs X ρ G (.Expr e pos :: rest) D :=
  wss_cons (ws_ps (ps_expr pe_we hs) fun σ H S => ⟨ρ, G, _, h, S, fun v H' ⟨d, G', e', o', r', q'⟩ => ⟨ρ, G', e', S.ext e' o', q'⟩⟩)

/-! ### names stored -/
theorem wss_setE (i : Nat) {x : Str} {pos' : Pos} (hN : X.N.Nodup) (h : WE X ρ G e fun d G' => WSs X (ρ.set i (some d)) G' rest D) (hi : X.N[i]? = some x := by rfl) (hx : Loc X.env.scope x := by first | exact Or.inl rfl | exact Or.inr rfl)
    (hs : swapsWith e (some (.Name x pos')) pos.line X.env = pure false := by rfl) (hf : X.fn x = true ∨ X.env.scope.names.lookup x = some .local := by first | exact .inl rfl | exact .inr rfl | assumption) : WSs X ρ G (.Assign [.Name x pos'] e pos :: rest) D :=
  wss_cons (ws_ps (ps_set (i := i) hN hi hx pe_we hs hf) fun σ H S => ⟨ρ, G, _, h, S, fun v H' ⟨d, G', e', o', r', q'⟩ => ⟨_, G', e', (S.ext e' o').set r', q'⟩⟩)
theorem wss_set (i : Nat) {x : Str} {pos' : Pos} (hN : X.N.Nodup) (h : PX X ρ G e d) (q : WSs X (ρ.set i (some d)) G rest D) (hi : X.N[i]? = some x := by rfl) (hx : Loc X.env.scope x := by first | exact Or.inl rfl | exact Or.inr rfl)
    (hs : swapsWith e (some (.Name x pos')) pos.line X.env = pure false := by rfl) (hf : X.fn x = true ∨ X.env.scope.names.lookup x = some .local := by first | exact .inl rfl | exact .inr rfl | assumption) : WSs X ρ G (.Assign [.Name x pos'] e pos :: rest) D :=
  wss_setE i hN (h.we q) hi hx hs hf

/-! ### targets -/
def PGD (X : Cx) (tg : Expr) (f : Dat → Rho → Option Rho) : Prop :=
  ∀ (pins : List (Addr × Obj)) (s : Shared) (σ : St) (H : Hp) (v : V) (u : Value) (ρ ρ' : Rho) (G : Gs) (d : Dat), Inv X pins σ H s → RelV v u → Stt X H σ ρ G → Rep X.K (hid H G) d v → f d ρ = some ρ' →
    wpAny (model X.prog X.w) X.A (assign tg X.env u) (fun _ s' => ∃ σ' H', Inv X pins σ' H' s' ∧ Ext H G H' G ∧ Stt X H' σ' ρ' G) X.xe s
def bName (i : Nat) : Dat → Rho → Option Rho := fun d ρ => some (ρ.set i (some d))
def bPair (i j : Nat) : Dat → Rho → Option Rho := fun d ρ => match d with
  | .tup [a, b] => some ((ρ.set i (some a)).set j (some b))
  | _ => none
theorem pgd_name (i : Nat) {x : Str} (hN : X.N.Nodup) (hi : X.N[i]? = some x := by rfl) (hx : Loc X.env.scope x := by first | exact Or.inl rfl | exact Or.inr rfl) (hf : X.fn x = true ∨ X.env.scope.names.lookup x = some .local := by first | exact .inl rfl | exact .inr rfl | assumption) : PGD X (.Name x pos) (bName i) := by
  intro pins s σ H v u ρ ρ' G d I r S q e
  cases e
  exact pg_name hN hi hx hf pins s σ H v u (fun σ' H' => Ext H G H' G ∧ Stt X H' σ' _ G) I r ⟨Ext.refl, S.set q⟩
theorem pgd_pair (i j : Nat) {x y : Str} {px py : Pos} {k : Nat} (hc : X.calm = true) (hN : X.N.Nodup) (hi : X.N[i]? = some x := by rfl) (hj : X.N[j]? = some y := by rfl) (hx : Loc X.env.scope x := by first | exact Or.inl rfl | exact Or.inr rfl) (hy : Loc X.env.scope y := by first | exact Or.inl rfl | exact Or.inr rfl)
    (hfx : X.fn x = true ∨ X.env.scope.names.lookup x = some .local := by first | exact .inl rfl | exact .inr rfl | assumption) (hfy : X.fn y = true ∨ X.env.scope.names.lookup y = some .local := by first | exact .inl rfl | exact .inr rfl | assumption) : PGD X (.Tuple [.Name x px, .Name y py] k pos) (bPair i j) := by
  intro pins s σ H v u ρ ρ' G d I r S q e
  cases d <;> simp only [bPair, reduceCtorEq] at e
  rename_i l
  match l, e, q with
  | [a, b], e, q =>
    simp only [Option.some.injEq] at e
    subst e
    rw [Rep] at q
    obtain ⟨p, vs, rfl, h1, h2⟩ := q
    rw [RepL] at h2
    obtain ⟨v1, r1, rfl, q1, h2⟩ := h2
    rw [RepL] at h2
    obtain ⟨v2, r2, rfl, q2, h2⟩ := h2
    rw [RepL] at h2
    subst h2
    exact pg_tup (n := 2) hc (pgs_cons (pg_name hN hi hx hfx) (pgs_cons (pg_name hN hj hy hfy) pgs_nil)) rfl rfl pins s σ H (.ref p) u (fun σ' H' => Ext H G H' G ∧ Stt X H' σ' _ G) I r
      ⟨p, [v1, v2], rfl, sqT_same hid_le h1, rfl, v1, [v2], rfl, v2, [], rfl, rfl, Ext.refl, (S.set q1).set q2⟩
  | [], e, _ => simp at e
  | [_], e, _ => simp at e
  | _ :: _ :: _ :: _, e, _ => simp at e
/-- a, b = e -/
theorem wss_unpack {tg : Expr} {f : Dat → Rho → Option Rho} {ρ' : Rho} (hg : PGD X tg f) (h : PX X ρ G e d) (hf : f d ρ = some ρ') (q : WSs X ρ' G rest D) (hs : swapsWithSole [tg] e pos.line X.env = pure false := by rfl) (hw : swappedStores [tg] e X.env = pure none := by rfl)
    (h1 : (assignEach [tg] X.env).map (·.2) = [assign tg X.env] := by rfl) : WSs X ρ G (.Assign [tg] e pos :: rest) D := wss_cons fun pins s σ H I S => by
  refine wpAny_Assign_stores (thn (h pins s σ H I S) fun v s1 ⟨x, H1, I1, r1, _, _, e1, o1, rx, q1, q1'⟩ => ?_) hs hw
  subst q1; subst q1'
  rw [h1]
  exact thn (hg pins s1 σ H1 x v ρ ρ' _ _ I1 r1 (S.ext e1 o1) rx hf) fun _ s2 ⟨σ2, H2, I2, e2, S2⟩ => ⟨σ2, H2, I2, ρ', _, e1.trans e2, S2, q⟩

/-! ### if -/
theorem wss_ifE {x y : List Stmt} (hc : WT X ρ G c fun p G' => (p = true → WSs X ρ G' x { D with nx := fun ρ' G' => WSs X ρ' G' rest D }) ∧ (p = false → WSs X ρ G' y { D with nx := fun ρ' G' => WSs X ρ' G' rest D })) : WSs X ρ G (.If c x y pos :: rest) D := wss_cons fun pins s σ H I S => by
  refine wpAny_If (thn (hc pins s σ H I S) fun p s1 ⟨H1, I1, G1, e1, o1, q1⟩ => ?_)
  cases p with
  | true => exact thn (q1.1 rfl pins s1 σ H1 I1 (S.ext e1 o1)) fun _ _ z => SP.trans e1 z
  | false => exact thn (q1.2 rfl pins s1 σ H1 I1 (S.ext e1 o1)) fun _ _ z => SP.trans e1 z
theorem wss_if {x y : List Stmt} {p : Bool} (hc : PXT X ρ G c p) (ht : p = true → WSs X ρ G x { D with nx := fun ρ' G' => WSs X ρ' G' rest D }) (hf : p = false → WSs X ρ G y { D with nx := fun ρ' G' => WSs X ρ' G' rest D }) : WSs X ρ G (.If c x y pos :: rest) D :=
  wss_ifE (pxt_mono hc ⟨ht, hf⟩)

/-! ### what is walked -/
def Wk (K : PySem.W.Frag) (J : It) (H : Hp) (G : Gs) (l : List Dat) : Prop :=
  ∀ H' G', Ext H G H' G' → (∀ (i : Nat) d, l[i]? = some d → J.go i H' ∧ ∀ x H'', J.yld i H' x H'' → Ext H' G' H'' G' ∧ (GOk K H' G' → GOk K H'' G') ∧ Rep K (hid H'' G') d x) ∧ J.stop l.length H'
def WI (X : Cx) (ρ : Rho) (G : Gs) (tg iter : Expr) (Q : List Dat → Gs → Prop) : Prop :=
  ∀ (pins : List (Addr × Obj)) (s : Shared) (σ : St) (H : Hp), Inv X pins σ H s → Stt X H σ ρ G →
    wpAny (model X.prog X.w) X.A (eval iter X.env) (fun v s1 => wpAny (model X.prog X.w) X.A (pyIter v) (PIE X pins σ tg fun J H' => ∃ l G', Ext H G H' G' ∧ GOk X.K H' G' ∧ Wk X.K J H' G' l ∧ Q l G') X.xe s1) X.xe s
theorem wk_list {K : PySem.W.Frag} {H : Hp} {p : Addr} {vs : List V} (h : hid H G p = some (.lst vs)) (r : RepL K (hid H G) l vs) : Wk K (Itl K p) H G l := by
  intro H' G' e
  have h' := hid_le _ _ (e.hid _ _ h)
  refine ⟨fun i d hd => ?_, vs, SqL.of h', by rw [r.length]; exact Nat.le_refl _⟩
  obtain ⟨v, hv, rv⟩ := r.get hd
  refine ⟨⟨vs, v, SqL.of h', hv⟩, fun x H'' ⟨e1, y⟩ => ?_⟩
  subst e1
  have := y vs (SqL.of h')
  rw [hv] at this
  cases this
  exact ⟨Ext.refl, fun o => o, rv.same e.hid⟩
theorem wk_tup {K : PySem.W.Frag} {H : Hp} {p : Addr} {vs : List V} (h : SqT K (hid H G) p vs) (r : RepL K (hid H G) l vs) : Wk K (Itt K p) H G l := by
  intro H' G' e
  have h' := sqT_same hid_le (sqT_same e.hid h)
  refine ⟨fun i d hd => ?_, vs, h', by rw [r.length]; exact Nat.le_refl _⟩
  obtain ⟨v, hv, rv⟩ := r.get hd
  refine ⟨⟨vs, v, h', hv⟩, fun x H'' ⟨e1, y⟩ => ?_⟩
  subst e1
  have := y vs h'
  rw [hv] at this
  cases this
  exact ⟨Ext.refl, fun o => o, rv.same e.hid⟩
def rangeD (lo : Int) (n : Nat) : List Dat := (List.range n).map fun i => .int (lo + (i : Nat))
theorem wk_rng {K : PySem.W.Frag} {H : Hp} {lo : Int} {n : Nat} : Wk K (Itr lo n) H G (rangeD lo n) := by
  intro H' G' e
  refine ⟨fun i d hd => ?_, by show n ≤ (rangeD lo n).length; simp [rangeD]⟩
  have hi : i < n := by
    have := (List.getElem?_eq_some_iff.mp hd).1
    simpa [rangeD] using this
  refine ⟨hi, fun x H'' ⟨e1, e2⟩ => ?_⟩
  subst e1; subst e2
  refine ⟨Ext.refl, fun o => o, ?_⟩
  have : (rangeD lo n)[i]? = some (.int (lo + i)) := by simp [rangeD, hi]
  rw [this] at hd
  cases hd
  rfl
theorem wi_listE {tg iter : Expr} {Q : List Dat → Gs → Prop} (h : WE X ρ G iter fun d G' => ∃ l, d = .lst l ∧ Q l G') : WI X ρ G tg iter Q := fun pins s σ H I S =>
  pi_list pe_we pins s σ H _ I ⟨ρ, G, _, h, S, fun x H1 ⟨d, G', e1, o1, r1, l, q1, q⟩ => by
    subst q1
    rw [Rep] at r1
    obtain ⟨p, vs, e2, h2, r2⟩ := r1
    exact ⟨p, e2, ⟨vs, SqL.of (hid_le _ _ h2)⟩, l, G', e1, o1, wk_list h2 r2, q⟩⟩
theorem wi_tupE {tg iter : Expr} {Q : List Dat → Gs → Prop} (h : WE X ρ G iter fun d G' => ∃ l, d = .tup l ∧ Q l G') : WI X ρ G tg iter Q := fun pins s σ H I S =>
  pi_tup pe_we pins s σ H _ I ⟨ρ, G, _, h, S, fun x H1 ⟨d, G', e1, o1, r1, l, q1, q⟩ => by
    subst q1
    rw [Rep] at r1
    obtain ⟨p, vs, e2, h2, r2⟩ := r1
    exact ⟨p, e2, ⟨vs, sqT_same hid_le h2⟩, l, G', e1, o1, wk_tup h2 r2, q⟩⟩
theorem wi_list {tg iter : Expr} {Q : List Dat → Gs → Prop} (h : PX X ρ G iter (.lst l)) (q : Q l G) : WI X ρ G tg iter Q := wi_listE (h.we ⟨l, rfl, q⟩)
theorem wi_tup {tg iter : Expr} {Q : List Dat → Gs → Prop} (h : PX X ρ G iter (.tup l)) (q : Q l G) : WI X ρ G tg iter Q := wi_tupE (h.we ⟨l, rfl, q⟩)
theorem wi_range1 {tg : Expr} {Q : List Dat → Gs → Prop} {n : Int} {p : Pos} (hg : Gl X "range") (hm : X.mg "range" = none) (ha : PX X ρ G a (.int n)) (h1 : -(2 ^ 62) ≤ n) (h2 : n < 2 ^ 62) (q : Q (rangeD 0 n.toNat) G) (hs : starEach [a] X.env = [(false, eval a X.env)] := by rfl) : WI X ρ G tg (.Call (.Name "range" p) [a] [] pos) Q := fun pins s σ H I S =>
  pi_range1 hg hm (pa_cons pe_we pa_nil hs) hs pins s σ H _ I ⟨ρ, G, _, ha, S, fun x H1 ⟨_, _, e1, o1, r1, q1, q1'⟩ => by
    subst q1; subst q1'
    cases (show x = V.int n from r1)
    exact ⟨n, rfl, h1, h2, _, _, e1, o1, wk_rng, q⟩⟩
theorem wi_range2 {tg : Expr} {Q : List Dat → Gs → Prop} {i n : Int} {p : Pos} (hg : Gl X "range") (hm : X.mg "range" = none) (ha : PX X ρ G a (.int i)) (hb : PX X ρ G b (.int n)) (h0 : -(2 ^ 62) ≤ i ∧ i < 2 ^ 62 ∧ -(2 ^ 62) ≤ n ∧ n < 2 ^ 62) (q : Q (rangeD i (n - i).toNat) G)
    (hs : starEach [a, b] X.env = [(false, eval a X.env), (false, eval b X.env)] := by rfl) (hs2 : starEach [b] X.env = [(false, eval b X.env)] := by rfl) : WI X ρ G tg (.Call (.Name "range" p) [a, b] [] pos) Q := fun pins s σ H I S =>
  pi_range2 hg hm (pa_cons pe_we (pa_cons pe_we pa_nil hs2) (by rw [hs, hs2])) hs hs2 pins s σ H _ I ⟨ρ, G, _, ha, S, fun x H1 ⟨_, _, e1, o1, r1, q1, q1'⟩ => by
    subst q1; subst q1'
    cases (show x = V.int i from r1)
    refine ⟨ρ, _, _, hb, S.ext e1 o1, fun y H2 ⟨_, _, e2, o2, r2, q2, q2'⟩ => ?_⟩
    subst q2; subst q2'
    cases (show y = V.int n from r2)
    exact ⟨i, n, rfl, h0, _, _, e1.trans e2, o2, wk_rng, q⟩⟩

/-! ### loops -/
theorem wss_for {tg iter : Expr} {f : Dat → Rho → Option Rho} (Pv : Nat → Rho → Gs → Prop) (hp : PassesOwn (model X.prog X.w) X.A X.env X.xe) (hc : X.calm = true) (hi : WI X ρ G tg iter fun l' G' => l' = l ∧ Pv 0 ρ G') (hg : PGD X tg f)
    (hs : ∀ (i : Nat) d ρ' G', l[i]? = some d → Pv i ρ' G' → ∃ ρ'', f d ρ' = some ρ'' ∧ WSs X ρ'' G' body { nx := Pv (i + 1), ct := Pv (i + 1), bk := fun ρ' G' => WSs X ρ' G' rest D, rt := D.rt })
    (hd : ∀ ρ' G', Pv l.length ρ' G' → WSs X ρ' G' rest D) (hfs : ∀ x, foldedSetIterable iter X.env x = pure x := by intro _; rfl) : WSs X ρ G (.For tg iter body [] pos :: rest) D := wss_cons fun pins s σ H I S => by
  refine wpAny_For (thn (hi pins s σ H I S) fun v s1 h1 => thn h1 fun itv s2 h2 => ?_) hfs
  obtain ⟨it, fp, tn, J, H2, e, I2, T, st2, f2, l', G2, e2, o2, wk, q, p0⟩ := h2
  subst e; subst q
  have stat : ∀ {H' : Hp}, (∀ b ∈ fp, H' b = none) → ∀ b ∈ fp, FpOk X pins H' b := fun hn b hb => ⟨hn b hb, (f2 b hb).2⟩
  refine codeAny_forLoop_any (fun n s' => ∃ i σ' H' ρ' G', i + n = l'.length ∧ Inv X pins σ' H' s' ∧ tn i s'.heap ∧ (∀ b ∈ fp, H' b = none) ∧ Ext H2 G2 H' G' ∧ Stt X H' σ' ρ' G' ∧ Pv i ρ' G') ?_ l'.length
    ⟨0, σ, H2, ρ, G2, Nat.zero_add _, I2, st2, fun b hb => (f2 b hb).1, Ext.refl, S.ext e2 o2, p0⟩
  rintro n s3 ⟨i, σ3, H3, ρ3, G3, hn, I3, st3, fr3, e3, S3, p3⟩
  obtain ⟨wk1, wk2⟩ := wk H3 G3 e3
  cases n with
  | zero =>
    have hn' : i = l'.length := by omega
    subst hn'
    refine wpAny_passesOwn hp (thn (T.done X rfl rfl rfl hc _ pins s3 σ3 H3 X.xe I3 (stat fr3) st3 wk2) fun r s4 ⟨hr, I4⟩ => ?_)
    subst hr
    exact wpAny_execs_nil ⟨σ3, H3, I4, ρ3, G3, e2.trans e3, S3, hd ρ3 G3 p3⟩
  | succ n =>
    have hlt : i < l'.length := by omega
    obtain ⟨go, wk1⟩ := wk1 i _ (List.getElem?_eq_getElem hlt)
    obtain ⟨ρ4, hf4, w4⟩ := hs i _ ρ3 G3 (List.getElem?_eq_getElem hlt) p3
    refine wpAny_passesOwn hp (thn (T.item X rfl rfl rfl hc i pins s3 σ3 H3 X.xe I3 (stat fr3) st3 go) fun r s4 ⟨u, hr, h4⟩ => ?_)
    subst hr
    refine wpAny_passesOwn hp (thn h4 fun _ s5 ⟨x, H5, I5, r5, y5, st5, fr5⟩ => ?_)
    obtain ⟨e5, o5, rep5⟩ := wk1 x H5 y5
    have I5' := I5.pinned (stat fr5) (T.obj _ _ st5)
    refine wpAny_passesOwn hp (thn (hg _ s5 σ3 H5 x u ρ3 ρ4 G3 _ I5' r5 (S3.ext e5 (o5 S3.own)) rep5 hf4) fun _ s6 ⟨σ6, H6, I6, e6, S6⟩ => ?_)
    refine wpAny_passesOwn hp (thn (w4 _ s6 σ6 H6 I6 S6) fun f s7 q7 => ?_)
    have again : ∀ {σ7 : St} {H7 : Hp}, Inv X (pins ++ pinsAt fp s5.heap) σ7 H7 s7 → lft X H6 G3 (Pv (i + 1)) σ7 H7 → ∃ m, m < n + 1 ∧ ∃ i σ' H' ρ' G', i + m = l'.length ∧ Inv X pins σ' H' s7 ∧ tn i s7.heap ∧ (∀ b ∈ fp, H' b = none) ∧ Ext H2 G2 H' G' ∧ Stt X H' σ' ρ' G' ∧ Pv i ρ' G' := fun {σ7 H7} I7 ⟨ρ7, G7, e7, S7, p7⟩ => by
      refine ⟨n, Nat.lt_succ_self _, i + 1, σ7, H7, ρ7, G7, by omega, I7.unpinned, T.keep _ _ _ st5 fun b hb o e => (I7.pin (b, o) (List.mem_append_right _ (List.mem_append_right _ (mem_pinsAt hb e)))).1, fun b hb => ?_, (e3.trans (e5.trans (e6.trans e7))), S7, p7⟩
      obtain ⟨o, e, d⟩ := T.obj _ _ st5 b hb
      exact (I7.pin (b, o) (List.mem_append_right _ (List.mem_append_right _ (mem_pinsAt hb e)))).2.1
    have whole : Ext H G H6 G3 := e2.trans (e3.trans (e5.trans e6))
    cases f with
    | next => obtain ⟨σ7, H7, I7, n7⟩ := q7; exact again I7 n7
    | cont => obtain ⟨σ7, H7, I7, n7⟩ := q7; exact again I7 n7
    | brk => obtain ⟨σ7, H7, I7, q7⟩ := q7; exact ⟨σ7, H7, I7.unpinned, lft_trans whole q7⟩
    | ret v => obtain ⟨x7, σ7, H7, I7, r7, q7⟩ := q7; exact ⟨x7, σ7, H7, I7.unpinned, r7, Po.trans whole q7⟩
theorem wss_while (Pv : Nat → Rho → Gs → Prop) (hp : PassesOwn (model X.prog X.w) X.A X.env X.xe) {m0 : Nat} (h0 : Pv m0 ρ G)
    (hs : ∀ m ρ' G', Pv m ρ' G' → WT X ρ' G' c fun p G'' => (p = true → WSs X ρ' G'' body { nx := fun ρ2 G2 => ∃ m', m' < m ∧ Pv m' ρ2 G2, ct := fun ρ2 G2 => ∃ m', m' < m ∧ Pv m' ρ2 G2, bk := fun ρ' G' => WSs X ρ' G' rest D, rt := D.rt }) ∧ (p = false → WSs X ρ' G'' rest D)) :
    WSs X ρ G (.While c body [] pos :: rest) D := wss_cons fun pins s σ H I S => by
  refine wpAny_While (codeAny_whileLoop (fun n s' => ∃ σ' H' ρ' G', Inv X pins σ' H' s' ∧ Ext H G H' G' ∧ Stt X H' σ' ρ' G' ∧ Pv n ρ' G') ?_ m0 ⟨σ, H, ρ, G, I, Ext.refl, S, h0⟩)
  rintro n s1 ⟨σ1, H1, ρ1, G1, I1, e1, S1, p1⟩
  refine wpAny_passesOwn hp (thn (hs n ρ1 G1 p1 pins s1 σ1 H1 I1 S1) fun p s2 ⟨H2, I2, G2, e2, o2, q2⟩ => ?_)
  cases p with
  | true =>
    rw [if_pos rfl]
    refine wpAny_passesOwn hp (thn (q2.1 rfl pins s2 σ1 H2 I2 (S1.ext e2 o2)) fun f s3 q3 => ?_)
    cases f with
    | next =>
      obtain ⟨σ3, H3, I3, ρ3, G3, e3, S3, m', hm, p3⟩ := q3
      exact ⟨m', hm, σ3, H3, ρ3, G3, I3, e1.trans (e2.trans e3), S3, p3⟩
    | cont =>
      obtain ⟨σ3, H3, I3, ρ3, G3, e3, S3, m', hm, p3⟩ := q3
      exact ⟨m', hm, σ3, H3, ρ3, G3, I3, e1.trans (e2.trans e3), S3, p3⟩
    | brk => obtain ⟨σ3, H3, I3, q3⟩ := q3; exact ⟨σ3, H3, I3, lft_trans (e1.trans e2) q3⟩
    | ret v => obtain ⟨x3, σ3, H3, I3, r3, q3⟩ := q3; exact ⟨x3, σ3, H3, I3, r3, Po.trans (e1.trans e2) q3⟩
  | false =>
    rw [if_neg Bool.false_ne_true]
    exact wpAny_execs_nil ⟨σ1, H2, I2, ρ1, G2, e1.trans e2, S1.ext e2 o2, q2.2 rfl⟩

/-! ### objects that may be changed -/
theorem own_new {H : Hp} {p : Addr} {vs : List V} (o : GOk X.K H G) (hp : H p = none) (r : RepL X.K (hid H G) ds vs) : Ext H G (upd H p (.lst vs)) (put G p (.lst ds)) ∧ GOk X.K (upd H p (.lst vs)) (put G p (.lst ds)) := by
  have hG := o.free hp
  have E : Ext H G (upd H p (.lst vs)) (put G p (.lst ds)) := ⟨fun b u e _ => by rw [upd_ne (ne_of_none e hp)]; exact e, fun b h => by
    by_cases hb : b = p
    · subst hb; exact .inr hp
    · rw [put_ne hb] at h; exact .inl h⟩
  refine ⟨E, fun b u q => ?_⟩
  by_cases hb : b = p
  · subst hb
    rw [put_same] at q
    cases q
    exact ⟨vs, upd_same, r.same E.hid⟩
  · rw [put_ne hb] at q
    exact (o b u q).ext E.hid (upd_ne hb)
theorem own_set {H : Hp} {p : Addr} {l : List Dat} {vs : List V} (o : GOk X.K H G) (hG : G p = some (.lst l)) (r : RepL X.K (hid H G) ds vs) : Ext H G (upd H p (.lst vs)) (put G p (.lst ds)) ∧ GOk X.K (upd H p (.lst vs)) (put G p (.lst ds)) := by
  have E : Ext H G (upd H p (.lst vs)) (put G p (.lst ds)) := ⟨fun b u e h => by
    have : b ≠ p := by rintro rfl; rw [hG] at h; cases h
    rw [upd_ne this]; exact e, fun b h => by
    by_cases hb : b = p
    · subst hb; left; rw [hG]; exact nofun
    · rw [put_ne hb] at h; exact .inl h⟩
  refine ⟨E, fun b u q => ?_⟩
  by_cases hb : b = p
  · subst hb
    rw [put_same] at q
    cases q
    exact ⟨vs, upd_same, r.same E.hid⟩
  · rw [put_ne hb] at q
    exact (o b u q).ext E.hid (upd_ne hb)
/-- an owned list becomes data -/
theorem own_rel {H : Hp} {p : Addr} {l : List Dat} (o : GOk X.K H G) (hG : G p = some (.lst l)) : Ext H G H (rel G p) ∧ GOk X.K H (rel G p) ∧ Rep X.K (hid H (rel G p)) (.lst l) (.ref p) := by
  have E : Ext H G H (rel G p) := ⟨fun b u e _ => e, fun b h => by
    by_cases hb : b = p
    · subst hb; rw [rel_same] at h; exact absurd rfl h
    · rw [rel_ne hb] at h; exact .inl h⟩
  refine ⟨E, fun b u q => ?_, ?_⟩
  · by_cases hb : b = p
    · subst hb; rw [rel_same] at q; cases q
    · rw [rel_ne hb] at q
      exact (o b u q).ext E.hid rfl
  · obtain ⟨vs, h1, r1⟩ := o p _ hG
    rw [Rep]
    exact ⟨p, vs, rfl, hid_of rel_same h1, r1.same E.hid⟩
/-- name = [..], a list that the code will change -/
theorem wss_ownL (i : Nat) {x : Str} {pos' : Pos} (hN : X.N.Nodup) (h : PXs X ρ G es ds) (q : ∀ p, G p = none → WSs X (ρ.set i (some (.fn p))) (put G p (.lst ds)) rest D) (hz : ds.length ≤ 1000 := by first | decide | (simp; done)) (hi : X.N[i]? = some x := by rfl) (hx : Loc X.env.scope x := by first | exact Or.inl rfl | exact Or.inr rfl)
    (hs : swapsWith (.List es p2) (some (.Name x pos')) pos.line X.env = pure false := by rfl) (hf : X.fn x = true ∨ X.env.scope.names.lookup x = some .local := by first | exact .inl rfl | exact .inr rfl | assumption) : WSs X ρ G (.Assign [.Name x pos'] (.List es p2) pos :: rest) D :=
  wss_cons (ws_ps (ps_set (i := i) hN hi hx (pe_lst pa_wa) hs hf) fun σ H S => ⟨ρ, G, _, h, S, fun vs H1 ⟨_, _, e1, o1, r1, q1, q1'⟩ => by
    subst q1; subst q1'
    refine ⟨by rw [r1.length]; exact Nat.le_of_lt (small1000 hz), fun p hp => ?_⟩
    obtain ⟨E, O⟩ := own_new o1 hp r1
    exact ⟨_, _, e1.trans E, Stt.set (d := .fn p) (v := .ref p) (S.ext (e1.trans E) O) rfl, q p (o1.free hp)⟩⟩)
/-- xs.append(e) -/
theorem wss_append {p : Addr} {apos cpos : Pos} (hx : PX X ρ G a (.fn p)) (h : PX X ρ G e d) (hG : G p = some (.lst l)) (hz : l.length < sizeLine) (q : WSs X ρ (put G p (.lst (l ++ [d]))) rest D)
    (hbase : attributeBase a "append" X.env (eval a X.env) = eval a X.env := by rfl) (hline : (apos.endLine == cpos.line) = true := by rfl) (he : starEach [e] X.env = (false, eval e X.env) :: starEach [] X.env := by rfl)
    (hfew : ((backTo cpos (starEach [e] X.env)).all (fun x => !x.1) && (backToKw cpos (keywordEach [] X.env)).all (fun x => x.1.isSome) && decide (([e] : List Expr).length + ([] : List Keyword).length + (if ([] : List Keyword).isEmpty then 0 else 1) < 30)) = true := by rfl)
    (hs : swapsWith (.Call (.Attribute a "append" apos) [e] [] cpos) none pos.line X.env = pure false := by rfl) : WSs X ρ G (.Expr (.Call (.Attribute a "append" apos) [e] [] cpos) pos :: rest) D :=
  wss_cons (ws_ps (ps_expr (pe_bm PySem.F.plainAttrs_list PySem.F.slot_list_append PySem.F.type_list_append mt_append pe_we (pa_cons pe_we pa_nil he) hbase hfew hline he rfl) hs) fun σ H S => ⟨ρ, G, _, hx, S, fun x H1 ⟨_, _, e1, o1, r1, q1, q1'⟩ => by
    subst q1; subst q1'
    cases (show x = V.ref p from r1)
    obtain ⟨vs1, h1, _⟩ := o1 p _ hG
    refine ⟨.inl ⟨rfl, vs1, SqL.of h1⟩, ρ, _, _, h, S.ext e1 o1, fun y H2 ⟨_, _, e2, o2, r2, q2, q2'⟩ => ?_⟩
    subst q2; subst q2'
    obtain ⟨vs, h2, r3⟩ := o2 p _ hG
    refine ⟨p, vs, y, rfl, rfl, h2, by rw [r3.length]; exact hz, ?_⟩
    obtain ⟨E, O⟩ := own_set o2 hG (r3.append (RepL.cons r2 RepL.nil))
    exact ⟨ρ, _, (e1.trans e2).trans E, S.ext ((e1.trans e2).trans E) O, q⟩⟩)
/-- return xs, an own list -/
theorem wss_retO {p : Addr} (h : PX X ρ G e (.fn p)) (hG : G p = some (.lst l)) (q : D.rt (.lst l) (rel G p)) : WSs X ρ G (.Return (some e) pos :: rest) D :=
  wss_retE fun pins s σ H I S => thn (h pins s σ H I S) fun v s1 z => EP.mono z fun x H1 ⟨_, _, e1, o1, r1, q1, q1'⟩ => by
    subst q1; subst q1'
    cases (show x = V.ref p from r1)
    obtain ⟨E, O, R⟩ := own_rel o1 hG
    exact ⟨_, _, e1.trans E, O, R, q⟩
end
end TF
set_option Elab.async false
set_option linter.all false
set_option maxRecDepth 100000
set_option maxHeartbeats 2000000
/-! List comprehensions over data -/
namespace TF
open PySem PySem.Spec L2
open PyProof.Rows hiding St RelV

theorem forIn_yield_fold {α β : Type} {f : α → β → Sem (ForInStep β)} {g : β → α → β} : ∀ (l : List α) (c : β), (∀ x ∈ l, ∀ c, f x c = pure (.yield (g c x))) → forIn l c f = (pure (l.foldl g c) : Sem β)
  | [], _, _ => rfl
  | x :: l, c, h => by
    rw [List.forIn_cons, h x List.mem_cons_self, pure_bind]
    exact forIn_yield_fold l _ fun y hy => h y (List.mem_cons_of_mem _ hy)
/-- the cells that a block takes along -/
def clF (env : Env) : List (Str × Addr) → Str × NameKind → List (Str × Addr) := fun cs x => if (x.2 == NameKind.free) = true then (x.1, (env.cells.lookup x.1).getD 0) :: cs else cs
def clOf (scope : Scope) (env : Env) : List (Str × Addr) := scope.names.foldl (clF env) []
theorem closureFor_ok {scope : Scope} {env : Env} (h : ∀ x ∈ scope.names, x.2 = .free → ∃ c, env.cells.lookup x.1 = some c) : closureFor scope env = pure (clOf scope env) := by
  simp only [closureFor]
  rw [forIn_yield_fold (g := clF env) scope.names [] (fun x hx c => ?_)]
  · rfl
  · obtain ⟨n, kind⟩ := x
    by_cases hk : kind = .free
    · subst hk
      obtain ⟨a, ha⟩ := h _ hx rfl
      simp only [cellOf, clF, ha, beq_self_eq_true, if_true, Option.getD_some, pure_bind]
    · have : (kind == NameKind.free) = false := by simpa using hk
      simp only [clF, this, Bool.false_eq_true, if_false]
theorem clF_mem {env : Env} {x : Str} {c : Addr} : ∀ (l : List (Str × NameKind)) (cs : List (Str × Addr)), (x, c) ∈ l.foldl (clF env) cs → (x, c) ∈ cs ∨ ((x, NameKind.free) ∈ l ∧ c = (env.cells.lookup x).getD 0)
  | [], _, h => .inl h
  | (n, k) :: l, cs, h => by
    rcases clF_mem l _ h with h | ⟨h1, h2⟩
    · unfold clF at h
      by_cases hk : (k == NameKind.free) = true
      · rw [if_pos hk] at h
        rcases List.mem_cons.mp h with e | h
        · cases e
          exact .inr ⟨by rw [eq_of_beq hk]; exact List.mem_cons_self, rfl⟩
        · exact .inl h
      · rw [if_neg hk] at h
        exact .inl h
    · exact .inr ⟨List.mem_cons_of_mem _ h1, h2⟩
theorem clF_has {env : Env} {x : Str} : ∀ (l : List (Str × NameKind)) (cs : List (Str × Addr)), ((x, NameKind.free) ∈ l ∨ ∃ c, (x, c) ∈ cs) → ∃ c, (x, c) ∈ l.foldl (clF env) cs
  | [], _, h => by
    rcases h with h | h
    · cases h
    · exact h
  | (n, k) :: l, cs, h => by
    refine clF_has l _ ?_
    rcases h with h | ⟨c, h⟩
    · rcases List.mem_cons.mp h with e | h
      · cases e
        right
        refine ⟨(env.cells.lookup x).getD 0, ?_⟩
        unfold clF
        rw [if_pos (by rfl)]
        exact List.mem_cons_self
      · exact .inl h
    · right
      refine ⟨c, ?_⟩
      unfold clF
      split
      · exact List.mem_cons_of_mem _ h
      · exact h
theorem lookup_mem {α : Type} {x : Str} {c : α} : ∀ {l : List (Str × α)}, l.lookup x = some c → (x, c) ∈ l
  | [], h => by simp at h
  | (n, k) :: l, h => by
    by_cases e : x = n
    · subst e
      simp only [List.lookup_cons, beq_self_eq_true] at h
      cases h
      exact List.mem_cons_self
    · have : (x == n) = false := by simpa using e
      simp only [List.lookup_cons, this] at h
      exact List.mem_cons_of_mem _ (lookup_mem h)
theorem mem_lookup {α : Type} {x : Str} {c : α} : ∀ {l : List (Str × α)}, (x, c) ∈ l → ∃ c', l.lookup x = some c'
  | [], h => by cases h
  | (n, k) :: l, h => by
    by_cases e : x = n
    · subst e; exact ⟨k, by simp [List.lookup_cons]⟩
    · have : (x == n) = false := by simpa using e
      rcases List.mem_cons.mp h with q | q
      · cases q; exact absurd rfl e
      · obtain ⟨c', h'⟩ := mem_lookup q
        exact ⟨c', by simpa [List.lookup_cons, this] using h'⟩

/-- a block's context -/
def compCx (X : Cx) (Nc : List Str) (scope : Scope) (C : Addr) (s : Shared) (H : Hp) (fp : List Addr) : Cx where
  prog := X.prog
  w := X.w
  K := X.K
  mg := X.mg
  base := X.base
  A := X.A
  N := Nc
  s₀ := s
  H₀ := H
  env := compEnvC scope (clOf scope X.env) C X.env
  outer := X.stack
  stack := X.stack
  ex := fp
  fn := fun _ => false
  calm := true
  pn := []
  xe := fun _ _ => False
/-- what the block's scope must be: its own names, the names that it takes along; psc, PN: the scope and the names of the code around -/
def compOk (psc : Scope) (PN : List Str) (scope : Scope) (Nc : List Str) (caps : List (Option Nat)) : Bool :=
  decide (scope.kind = .function) && scope.names.all (fun x => decide (x.2 ≠ .cell)) && scope.names.all (fun x => decide (x.2 = .local → scope.names.lookup x.1 = some .local)) &&
  scope.names.all (fun x => decide (x.2 = .free → scope.names.lookup x.1 = some .free ∧ (psc.names.lookup x.1 = some .cell ∨ psc.names.lookup x.1 = some .free))) && decide Nc.Nodup && decide (caps.length = Nc.length) &&
  (caps.zip Nc).all (fun q => match q.1 with | none => true | some j => decide (PN[j]? = some q.2) && decide ((q.2, NameKind.free) ∈ scope.names))
structure CompSc (X : Cx) (scope : Scope) (Nc : List Str) (caps : List (Option Nat)) : Prop where
  kind : scope.kind = .function
  nocell : ∀ x ∈ scope.names, x.2 ≠ .cell
  names : ∀ x ∈ scope.names, x.2 = .local → scope.names.lookup x.1 = some .local
  free : ∀ x ∈ scope.names, x.2 = .free → X.env.kindOf x.1 = some .cell ∨ X.env.kindOf x.1 = some .free
  sole : ∀ x ∈ scope.names, x.2 = .free → scope.names.lookup x.1 = some .free
  nd : Nc.Nodup
  len : caps.length = Nc.length
  caps : ∀ (i j : Nat) (x : Str), caps[i]? = some (some j) → Nc[i]? = some x → X.N[j]? = some x ∧ (x, NameKind.free) ∈ scope.names
theorem compSc {X : Cx} {psc : Scope} {PN : List Str} {scope : Scope} {Nc : List Str} {caps : List (Option Nat)} (h : compOk psc PN scope Nc caps = true) (h1 : X.env.scope = psc) (h2 : X.N = PN) : CompSc X scope Nc caps := by
  unfold compOk at h
  simp only [Bool.and_eq_true, decide_eq_true_eq, List.all_eq_true] at h
  obtain ⟨⟨⟨⟨⟨⟨a, b⟩, c⟩, d⟩, e⟩, f⟩, g⟩ := h
  refine ⟨a, b, c, fun x hx hf => ?_, fun x hx hf => (d x hx hf).1, e, f, fun i j x hi hj => ?_⟩
  · have := (d x hx hf).2
    show X.env.scope.names.lookup x.1 = _ ∨ X.env.scope.names.lookup x.1 = _
    rw [h1]; exact this
  · have hm : (some j, x) ∈ caps.zip Nc := List.mem_of_getElem? (i := i) (by rw [List.getElem?_zip_eq_some]; exact ⟨hi, hj⟩)
    have := g _ hm
    simp only [Bool.and_eq_true, decide_eq_true_eq] at this
    rw [h2]
    exact this
def pick {α : Type} (caps : List (Option Nat)) (l : List (Option α)) : List (Option α) := caps.map fun o => o.bind fun j => (l[j]?).join
theorem pick_get {α : Type} {caps : List (Option Nat)} {l : List (Option α)} {i : Nat} {v : α} (h : (pick caps l)[i]? = some (some v)) : ∃ j, caps[i]? = some (some j) ∧ l[j]? = some (some v) := by
  unfold pick at h
  rw [List.getElem?_map] at h
  cases q : caps[i]? with
  | none => rw [q] at h; cases h
  | some o =>
    rw [q] at h
    cases o with
    | none => simp at h
    | some j =>
      refine ⟨j, rfl, ?_⟩
      simp only [Option.map_some, Option.bind_some, Option.some.injEq] at h
      cases z : l[j]? with
      | none => rw [z] at h; simp at h
      | some u => rw [z] at h; simp only [Option.join_some] at h; rw [h]
theorem get_pick {α : Type} {caps : List (Option Nat)} {l : List (Option α)} {i j : Nat} {v : α} (h : caps[i]? = some (some j)) (h' : l[j]? = some (some v)) : (pick caps l)[i]? = some (some v) := by
  unfold pick
  rw [List.getElem?_map, h]
  simp [h']

section
variable {X : Cx} {pins : List (Addr × Obj)} {σ : St} {H : Hp} {s : Shared} {scope : Scope} {Nc : List Str} {caps : List (Option Nat)} {fp : List Addr} {ρ : Rho} {G : Gs}
theorem clOf_cell (I : Inv X pins σ H s) (Sc : CompSc X scope Nc caps) {x : Str} {c : Addr} (h : (clOf scope X.env).lookup x = some c) : X.env.cells.lookup x = some c ∧ (x, NameKind.free) ∈ scope.names := by
  rcases clF_mem _ _ (lookup_mem h) with h | ⟨h1, h2⟩
  · cases h
  · obtain ⟨c', hc⟩ := I.ok.has x (Sc.free _ h1 rfl)
    rw [hc] at h2
    exact ⟨by rw [hc, h2]; rfl, h1⟩
theorem clOf_of (I : Inv X pins σ H s) (Sc : CompSc X scope Nc caps) {x : Str} (h : (x, NameKind.free) ∈ scope.names) : ∃ c, (clOf scope X.env).lookup x = some c ∧ X.env.cells.lookup x = some c := by
  obtain ⟨c, hm⟩ := clF_has (env := X.env) scope.names [] (.inl h)
  obtain ⟨c', hc⟩ := mem_lookup hm
  exact ⟨c', hc, (clOf_cell I Sc hc).1⟩
theorem relabel_kind {env : Env} {x : Str} : ∀ {names : List (Str × NameKind)} {k : NameKind}, (names.map fun (n, k) => if (k == NameKind.free && env.scope.kind == .function && env.kindOf n == some .cell) then (n, NameKind.cell) else (n, k)).lookup x = some k →
    ∃ k', (x, k') ∈ names ∧ (k = k' ∨ (k' = .free ∧ k = .cell))
  | [], _, h => by simp at h
  | (n, k0) :: r, k, h => by
    rw [List.map_cons] at h
    by_cases e : x = n
    · subst e
      by_cases hc : (k0 == NameKind.free && env.scope.kind == .function && env.kindOf x == some .cell) = true
      · simp only [hc, if_true, List.lookup_cons, beq_self_eq_true] at h
        cases h
        simp only [Bool.and_eq_true] at hc
        exact ⟨k0, List.mem_cons_self, .inr ⟨eq_of_beq hc.1.1, rfl⟩⟩
      · simp only [hc, Bool.false_eq_true, if_false, List.lookup_cons, beq_self_eq_true] at h
        cases h
        exact ⟨k0, List.mem_cons_self, .inl rfl⟩
    · have hx : (x == n) = false := by simpa using e
      have : (List.map (fun (x : Str × NameKind) => match x with | (n, k) => if (k == NameKind.free && env.scope.kind == .function && env.kindOf n == some .cell) then (n, NameKind.cell) else (n, k)) r).lookup x = some k := by
        by_cases hc : (k0 == NameKind.free && env.scope.kind == .function && env.kindOf n == some .cell) = true
        · simp only [hc, if_true, List.lookup_cons, hx] at h; exact h
        · simp only [hc, Bool.false_eq_true, if_false, List.lookup_cons, hx] at h; exact h
      obtain ⟨k', h1, h2⟩ := relabel_kind this
      exact ⟨k', List.mem_cons_of_mem _ h1, h2⟩
theorem relabel_free {env : Env} {x : Str} : ∀ {names : List (Str × NameKind)}, names.lookup x = some .free → (names.map fun (n, k) => if (k == NameKind.free && env.scope.kind == .function && env.kindOf n == some .cell) then (n, NameKind.cell) else (n, k)).lookup x = some .cell ∨
    (names.map fun (n, k) => if (k == NameKind.free && env.scope.kind == .function && env.kindOf n == some .cell) then (n, NameKind.cell) else (n, k)).lookup x = some .free
  | [], h => by simp at h
  | (n, k0) :: r, h => by
    rw [List.map_cons]
    by_cases e : x = n
    · subst e
      simp only [List.lookup_cons, beq_self_eq_true] at h
      cases h
      by_cases hc : (NameKind.free == NameKind.free && env.scope.kind == .function && env.kindOf x == some .cell) = true
      · left
        show List.lookup x ((if (NameKind.free == NameKind.free && env.scope.kind == .function && env.kindOf x == some .cell) = true then (x, NameKind.cell) else (x, NameKind.free)) :: _) = _
        rw [if_pos hc, List.lookup_cons, beq_self_eq_true]
      · right
        show List.lookup x ((if (NameKind.free == NameKind.free && env.scope.kind == .function && env.kindOf x == some .cell) = true then (x, NameKind.cell) else (x, NameKind.free)) :: _) = _
        rw [if_neg hc, List.lookup_cons, beq_self_eq_true]
    · have hx : (x == n) = false := by simpa using e
      simp only [List.lookup_cons, hx] at h
      have ih := relabel_free (env := env) h
      by_cases hc : (k0 == NameKind.free && env.scope.kind == .function && env.kindOf n == some .cell) = true
      · simp only [hc, if_true, List.lookup_cons, hx]; exact ih
      · simp only [hc, Bool.false_eq_true, if_false, List.lookup_cons, hx]; exact ih
/-- the block begins: I is the state with the new list, C the block's own namespace -/
theorem comp_enter (I : Inv X pins σ H s) (Sc : CompSc X scope Nc caps) (hcalm : X.calm = true) {h₁ : Heap} {tk : Nat} (hf : ∀ b ∈ fp, FpOk X pins H b) (hlt : ∀ b ∈ fp, b < s.heap.objs.size)
    (hns : ∃ m, h₁.Ns s.heap.objs.size m) (hk : ∀ b u, s.heap.get? b = some u → h₁.get? b = some u) :
    Inv (compCx X Nc scope s.heap.objs.size s H fp) [] (pick caps σ) H { s with heap := h₁, toks := tk } := by
  have kindX : ∀ x, ((compCx X Nc scope s.heap.objs.size s H fp).env.kindOf x = some .cell ∨ (compCx X Nc scope s.heap.objs.size s H fp).env.kindOf x = some .free) → (x, NameKind.free) ∈ scope.names := fun x hx => by
    have hh : ∃ k, (k = NameKind.cell ∨ k = NameKind.free) ∧ (compCx X Nc scope s.heap.objs.size s H fp).env.kindOf x = some k := by
      rcases hx with h | h
      · exact ⟨_, .inl rfl, h⟩
      · exact ⟨_, .inr rfl, h⟩
    obtain ⟨k, hk, h⟩ := hh
    obtain ⟨k', h1, h2⟩ := relabel_kind (env := X.env) h
    rcases h2 with e | ⟨e, _⟩
    · subst e
      rcases hk with e | e
      · subst e; exact absurd rfl (Sc.nocell _ h1)
      · subst e; exact h1
    · subst e; exact h1
  refine ⟨?_, rfl, I.bare, Un.kept hk, ?_, fun x c e => ?_, ?_, fun x c e => ?_, fun p hp => ?_, I.hok.kept hk, ?_⟩
  · refine ⟨I.ok.mod, Sc.kind, I.ok.glob, I.ok.blt, Nat.le_refl _, fun x y c h1 h2 => ?_, fun x h => ?_, fun x c h => ?_, fun _ => I.ok.hd hcalm, I.ok.frames, .inl rfl, fun b hb => ?_, I.bs, Nat.le_trans I.ok.bsz I.sz, fun b o e hb => ?_, fun b hb hb' => ?_, I.stack, I.stkFree⟩
    · exact I.ok.inj x y c (clOf_cell I Sc h1).1 (clOf_cell I Sc h2).1
    · obtain ⟨c, h1, _⟩ := clOf_of I Sc (kindX x h)
      exact ⟨c, h1⟩
    · exact absurd h Bool.false_ne_true
    · exact ⟨Nat.ne_of_lt (hlt b hb), fun x c e => (hf b hb).2.2.2.2.1 x c (clOf_cell I Sc e).1⟩
    · rcases (hf b hb).2.2.2.1 with z | z
      · exact I.ok.noex b o e z
      · exact absurd (Nat.lt_of_lt_of_le (Heap.lt_size e) (Nat.le_trans I.ok.bsz z)) (Nat.lt_irrefl _)
    · rcases List.mem_cons.mp (I.stkSub b hb') with z | z
      · exact (hf b hb).2.1 z
      · exact (hf b hb).2.2.1 z
  · obtain ⟨m, hm⟩ := hns
    refine ⟨m, hm, fun i x v h1 h2 h3 => ?_⟩
    obtain ⟨j, hj, hv⟩ := pick_get h2
    obtain ⟨hN, hfr⟩ := Sc.caps i j x hj h1
    obtain ⟨c, hc1, hc2⟩ := clOf_of I Sc hfr
    have kx := Sc.free _ hfr rfl
    obtain ⟨m0, _, hl⟩ := I.loc
    obtain ⟨u, ru, lk⟩ := hl j x v hN hv (by rcases kx with z | z; exact .inr (.inl z); exact .inr (.inr z))
    refine ⟨u, ru, ?_⟩
    rcases lk with ⟨z, _⟩ | ⟨_, c', e', cell⟩
    · rcases kx with y | y <;> (have y' : X.env.kindOf x = _ := y; rw [z] at y'; cases y')
    · rw [hc2] at e'
      cases e'
      exact .inr ⟨relabel_free (Sc.sole _ hfr rfl), c, hc1, cell.keeps hk⟩
  · obtain ⟨v, z⟩ := I.cell x c (clOf_cell I Sc e).1
    exact ⟨v, z.keeps hk⟩
  · exact I.hok.fresh (Nat.le_refl _)
  · exact I.freeC x c (clOf_cell I Sc e).1
  · cases hp
  · unfold pick; rw [List.length_map]; exact Sc.len
end
end TF
namespace TF
open PySem PySem.Spec L2
open PyProof.Rows hiding St RelV
/-- the block is over: its namespace C is let go -/
theorem comp_leave {X : Cx} {pins : List (Addr × Obj)} {σ σc : St} {H Hf : Hp} {s sf : Shared} {scope : Scope} {Nc : List Str} {fp : List Addr} {h' : Heap} (I : Inv X pins σ H s) (hf : ∀ b ∈ fp, FpOk X pins H b)
    (Ic : Inv (compCx X Nc scope s.heap.objs.size s H fp) [] σc Hf sf) (hs : Heap.SameBut s.heap.objs.size sf.heap h') : Inv X pins σ Hf { sf with heap := h' } := by
  have hch : ∀ b ∈ fp, (b ∈ X.ex ∨ X.s₀.heap.objs.size ≤ b) ∧ b ≠ X.env.locals ∧ (∀ x c, X.env.cells.lookup x = some c → c ≠ b) ∧ ∀ p ∈ X.pn ++ pins, p.1 ≠ b := fun b hb =>
    ⟨(hf b hb).2.2.2.1, (hf b hb).2.1, (hf b hb).2.2.2.2.1, (hf b hb).2.2.2.2.2⟩
  have I1 : Inv X pins σ Hf sf := I.call' Ic.os Ic.base Ic.hok Ic.bare hch
  have hC : Hf s.heap.objs.size = none := Ic.free
  refine I1.turned (t' := sf.toks) (it := s.heap.objs.size) (fun b o hb e => hs.extBut b o hb e) hC (Nat.ne_of_gt I.lt) (.inr I.sz) (fun x c e z => ?_) fun p hp z => ?_
  · obtain ⟨v, o, ho, _⟩ := I.cell x c e
    rw [z] at ho
    exact absurd (Heap.lt_size ho) (Nat.lt_irrefl _)
  · have := (I.pin p hp).1
    rw [z] at this
    exact absurd (Heap.lt_size this) (Nat.lt_irrefl _)

theorem compTurn_0 (elt target iter : Expr) (scope : Scope) (pos : Pos) (it acc : Value) (env : Env) :
    compTurn (.ListComp elt [⟨target, iter, [], 0⟩] scope pos) 0 it acc env = (standAt iter.pos >>= fun _ => pyNext it >>= fun r => match r with
      | none => pure (.done .next)
      | some v => letOwnedTupleGo target it v >>= fun _ => assign target env v >>= fun _ =>
        (eval elt env >>= fun x => call (.builtin "list.append") [acc, x] >>= fun _ => pure ()) >>= fun _ =>
          again (.compLoop (.ListComp elt [⟨target, iter, [], 0⟩] scope pos) 0 it acc env)) := by rfl
def emitT (elt : Expr) (env : Env) (acc : Value) : Sem Unit := eval elt env >>= fun x => call (.builtin "list.append") [acc, x] >>= fun _ => pure ()
def testT (c elt : Expr) (env : Env) (acc : Value) : Sem Unit := isTrue c env (eval c env) >>= fun ok => if ok = true then emitT elt env acc else pure ()
/-- a turn, its tail (tests, element, append) apart -/
def TurnIs (elt target iter : Expr) (ifs : List Expr) (scope : Scope) (pos : Pos) (tail : Env → Value → Sem Unit) : Prop :=
  ∀ (it acc : Value) (env : Env), compTurn (.ListComp elt [⟨target, iter, ifs, 0⟩] scope pos) 0 it acc env = (standAt iter.pos >>= fun _ => pyNext it >>= fun r => match r with
      | none => pure (.done .next)
      | some v => letOwnedTupleGo target it v >>= fun _ => assign target env v >>= fun _ => tail env acc >>= fun _ =>
          again (.compLoop (.ListComp elt [⟨target, iter, ifs, 0⟩] scope pos) 0 it acc env))
theorem turnIs_0 (elt target iter : Expr) (scope : Scope) (pos : Pos) : TurnIs elt target iter [] scope pos (emitT elt) := fun it acc env => by rfl
theorem turnIs_1 (elt target iter c : Expr) (scope : Scope) (pos : Pos) : TurnIs elt target iter [c] scope pos (testT c elt) := fun it acc env => by
  have e : compTurn (.ListComp elt [⟨target, iter, [c], 0⟩] scope pos) 0 it acc env = (standAt iter.pos >>= fun _ => pyNext it >>= fun r => match r with
      | none => pure (.done .next)
      | some v => letOwnedTupleGo target it v >>= fun _ => assign target env v >>= fun _ =>
          (forIn [c] true fun c r => if r = true then (isTrue c env (eval c env) >>= fun ok => pure (ForInStep.yield ok)) else pure (ForInStep.yield r)) >>= fun ok =>
            if ok = true then (emitT elt env acc >>= fun _ => again (.compLoop (.ListComp elt [⟨target, iter, [c], 0⟩] scope pos) 0 it acc env)) else again (.compLoop (.ListComp elt [⟨target, iter, [c], 0⟩] scope pos) 0 it acc env)) := by rfl
  rw [e]
  refine congrArg _ (funext fun _ => congrArg _ (funext fun r => ?_))
  cases r with
  | none => rfl
  | some v =>
    refine congrArg (letOwnedTupleGo target it v >>= ·) (funext fun _ => congrArg (assign target env v >>= ·) (funext fun _ => ?_))
    unfold testT
    simp only [List.forIn_cons, List.forIn_nil, if_true, bind_assoc, pure_bind]
    refine congrArg (isTrue c env (eval c env) >>= ·) (funext fun ok => ?_)
    cases ok <;> simp
/-- what the tail of a turn does -/
def WTail (Xc : Cx) (ρ : Rho) (G : Gs) (tl : Sem Unit) (Q : Gs → Prop) : Prop :=
  ∀ (pins : List (Addr × Obj)) (s : Shared) (σ : St) (H : Hp), Inv Xc pins σ H s → Stt Xc H σ ρ G → wpAny (model Xc.prog Xc.w) Xc.A tl (fun _ s' => ∃ H' G', Inv Xc pins σ H' s' ∧ Ext H G H' G' ∧ GOk Xc.K H' G' ∧ Q G') (fun _ _ => False) s
section
variable {X : Cx} {pins : List (Addr × Obj)} {σ : St} {H : Hp} {s : Shared} {scope : Scope} {Nc : List Str} {caps : List (Option Nat)} {ρ : Rho} {G : Gs} {elt target iter c : Expr} {ifs : List Expr} {cpos : Pos} {l : List Dat} {f : Dat → Rho → Option Rho} {tail : Env → Value → Sem Unit}
theorem comp_core (Pv : Nat → List Dat → Gs → Prop) (ht : TurnIs elt target iter ifs scope cpos tail) (Sc : CompSc X scope Nc caps) (hcalm : X.calm = true)
    (hg : ∀ C s' H' fp, PGD (compCx X Nc scope C s' H' fp) target f) (hle : ∀ d ρ', f d (pick caps ρ) = some ρ' → ρ'.length = (pick caps ρ).length ∧ ∀ (j : Nat) e, (pick caps ρ)[j]? = some (some e) → ρ'[j]? = some (some e)) (hz : l.length ≤ sizeLine)
    (hstep : ∀ C s' H' fp D i d acc G', l[i]? = some d → Pv i acc G' → G' D = none → ∃ ρ', f d (pick caps ρ) = some ρ' ∧
      WTail (compCx X Nc scope C s' H' fp) ρ' (put G' D (.lst acc)) (tail (compCx X Nc scope C s' H' fp).env (.ref D)) fun G'' => ∃ acc' G4, acc'.length ≤ acc.length + 1 ∧ G4 D = none ∧ G'' = put G4 D (.lst acc') ∧ Pv (i + 1) acc' G4)
    {it : Addr} {fp : List Addr} {tn : Nat → Heap → Prop} {J : It} (I : Inv X pins σ H s) (S : Stt X H σ ρ G) (T : Turn X.prog X.w X.K target J fp it tn) (st : tn 0 s.heap) (hf : ∀ b ∈ fp, FpOk X pins H b) (wk : Wk X.K J H G l) (p0 : Pv 0 [] G)
    {E : Value → Shared → Prop} {RR : Value → Addr → Result → Shared → Prop}
    (hRR : ∀ D C s3 sf σc Hf Gf acc, (∀ b o, s.heap.get? b = some o → s3.heap.get? b = some o) → C = s3.heap.objs.size → (∃ H3, Inv X pins σ H3 s3 ∧ (∀ b ∈ fp, FpOk X pins H3 b) ∧ Inv (compCx X Nc scope C s3 H3 fp) [] σc Hf sf) → Ext H G Hf (put Gf D (.lst acc)) → GOk X.K Hf (put Gf D (.lst acc)) → Gf D = none → Pv l.length acc Gf → RR (.ref D) C (.ok .next) sf) :
    wpAny (model X.prog X.w) X.A (newList []) (fun acc s₃ => wpAny (model X.prog X.w) X.A (newFunctionEnv scope X.env.globals (clOf scope X.env) [] X.env.qual none .none (some X.env)) (fun cenv s₄ =>
      codeAny (model X.prog X.w) X.A (.compStart (.ListComp elt [⟨target, iter, ifs, 0⟩] scope cpos) 0 (.ref it) acc { cenv with scope := relabel scope X.env }) (RR acc cenv.locals) s₄) E s₃) E s := by
  refine wpAny_newObj_type (wpAny_newFunctionEnv Sc.nocell (by intro y hy; simp at hy) (fun h₁ hns₁ hsb₁ => ?_) Sc.kind)
  dsimp only at hns₁ hsb₁ ⊢
  have I3 : Inv X pins σ (upd H s.heap.objs.size (.lst [])) { s with heap := s.heap.push { cls := .type "list", data := .seq ([] : List Value).toArray }, toks := s.toks } := I.lnew (ys := []) (its := []) .nil (Nat.zero_le _)
  have hD : H s.heap.objs.size = none := I.hok.fresh (Nat.le_refl _)
  obtain ⟨E3, O3⟩ := own_new (X := X) (ds := []) S.own hD RepL.nil
  have lt2 : ∀ b ∈ fp, b < s.heap.objs.size := fun b hb => by obtain ⟨o, e, _⟩ := T.obj 0 _ st b hb; exact Heap.lt_size e
  have ne2 : ∀ b ∈ fp, b ≠ s.heap.objs.size := fun b hb => Nat.ne_of_lt (lt2 b hb)
  have f3 : ∀ b ∈ fp, FpOk X pins (upd H s.heap.objs.size (.lst [])) b := fun b hb => ⟨by rw [upd_ne (ne2 b hb)]; exact (hf b hb).1, (hf b hb).2⟩
  generalize hs3 : ({ s with heap := s.heap.push { cls := .type "list", data := .seq ([] : List Value).toArray }, toks := s.toks } : Shared) = s3 at I3
  have e3 : s3.heap = s.heap.push { cls := .type "list", data := .seq ([] : List Value).toArray } := by rw [← hs3]
  have k3 : ∀ b o, s.heap.get? b = some o → s3.heap.get? b = some o := fun b o e => by rw [e3]; exact Heap.get?_push_of_some _ e
  have hC : s3.heap.objs.size = s.heap.objs.size + 1 := by rw [e3, Heap.size_push]
  have lt3 : ∀ b ∈ fp, b < s3.heap.objs.size := fun b hb => by rw [hC]; exact Nat.lt_succ_of_lt (lt2 b hb)
  rw [← e3] at hns₁ hsb₁
  have hk : ∀ b u, s3.heap.get? b = some u → h₁.get? b = some u := fun b u e => hsb₁.extBut b u (Nat.ne_of_lt (Heap.lt_size e)) (Heap.get?_push_of_some _ e)
  have Ic := comp_enter (tk := s.toks + ([] : List (Str × Value)).length) I3 Sc hcalm f3 lt3 ⟨_, hns₁⟩ hk
  have st1 : tn 0 h₁ := T.keep _ _ _ st fun b hb o e => hk b o (k3 b o e)
  have Sc0 : Stt (compCx X Nc scope s3.heap.objs.size s3 (upd H s.heap.objs.size (.lst [])) fp) (upd H s.heap.objs.size (.lst [])) (pick caps σ) (pick caps ρ) (put G s.heap.objs.size (.lst [])) := by
    refine ⟨fun i d h => ?_, by unfold pick; rw [List.length_map, List.length_map], O3⟩
    obtain ⟨j, hj, hd⟩ := pick_get h
    obtain ⟨v, hv, rv⟩ := S.env j d hd
    exact ⟨v, get_pick hj hv, rv.same E3.hid⟩
  have wk3 : ∀ H' G', Ext (upd H s.heap.objs.size (.lst [])) (put G s.heap.objs.size (.lst [])) H' G' → Ext H G H' G' := fun H' G' e => E3.trans e
  have loop : ∀ s4 : Shared, s4 = { s3 with heap := h₁, toks := s.toks + ([] : List (Str × Value)).length } →
      codeAny (model X.prog X.w) X.A (.compLoop (.ListComp elt [⟨target, iter, ifs, 0⟩] scope cpos) 0 (.ref it) (.ref s.heap.objs.size) (compCx X Nc scope s3.heap.objs.size s3 (upd H s.heap.objs.size (.lst [])) fp).env) (RR (.ref s.heap.objs.size) s3.heap.objs.size) s4 := by
    rintro s4 rfl
    refine codeAny_loop rfl (fun n s' => ∃ i acc σ' H' G', i + n = l.length ∧ acc.length ≤ i ∧ Inv (compCx X Nc scope s3.heap.objs.size s3 (upd H s.heap.objs.size (.lst [])) fp) [] σ' H' s' ∧ tn i s'.heap ∧ (∀ b ∈ fp, H' b = none) ∧
        Ext (upd H s.heap.objs.size (.lst [])) (put G s.heap.objs.size (.lst [])) H' (put G' s.heap.objs.size (.lst acc)) ∧ Stt (compCx X Nc scope s3.heap.objs.size s3 (upd H s.heap.objs.size (.lst [])) fp) H' σ' (pick caps ρ) (put G' s.heap.objs.size (.lst acc)) ∧ G' s.heap.objs.size = none ∧ Pv i acc G') ?_ l.length
      ⟨0, [], _, _, G, Nat.zero_add _, Nat.le_refl _, Ic, st1, fun b hb => (f3 b hb).1, Ext.refl, Sc0, S.own.free hD, p0⟩
    rintro n s5 ⟨i, acc, σ5, H5, G5, hn, hacc, I5, st5, fr5, e5, S5, hG5, p5⟩
    show wpAny (model X.prog X.w) X.A ((compTurn (.ListComp elt [⟨target, iter, ifs, 0⟩] scope cpos) 0 (.ref it) (.ref s.heap.objs.size) (compCx X Nc scope s3.heap.objs.size s3 (upd H s.heap.objs.size (.lst [])) fp).env).onRaise (fun x => do noteFrame x (compCx X Nc scope s3.heap.objs.size s3 (upd H s.heap.objs.size (.lst [])) fp).env; theTreesLotGoes x)) _ _ s5
    refine wpAny_noted ?_
    rw [ht]
    refine wpAny_bind (wpAny_standAt (wpAny_bind ?_))
    have stat : ∀ {H' : Hp}, (∀ b ∈ fp, H' b = none) → ∀ b ∈ fp, FpOk (compCx X Nc scope s3.heap.objs.size s3 (upd H s.heap.objs.size (.lst [])) fp) [] H' b := fun hn b hb =>
      ⟨hn b hb, Nat.ne_of_lt (lt3 b hb), Ic.ok.exfs b hb, .inl hb, (Ic.ok.exf b hb).2, fun p hp => by cases hp⟩
    obtain ⟨wk1, wk2⟩ := wk H5 _ (wk3 _ _ e5)
    cases n with
    | zero =>
      have hn' : i = l.length := by omega
      subst hn'
      refine thn (T.done (compCx X Nc scope s3.heap.objs.size s3 (upd H s.heap.objs.size (.lst [])) fp) rfl rfl rfl rfl _ [] s5 σ5 H5 _ I5 (stat fr5) st5 wk2) fun r s6 ⟨hr, I6⟩ => ?_
      subst hr
      exact wpAny_pure (hRR _ _ s3 s6 σ5 H5 G5 acc k3 rfl ⟨_, I3, f3, I6⟩ (wk3 _ _ e5) S5.own hG5 p5)
    | succ n =>
      have hlt : i < l.length := by omega
      obtain ⟨go, wk1⟩ := wk1 i _ (List.getElem?_eq_getElem hlt)
      obtain ⟨ρ6, hf6, w6⟩ := hstep s3.heap.objs.size s3 (upd H s.heap.objs.size (.lst [])) fp s.heap.objs.size i _ acc G5 (List.getElem?_eq_getElem hlt) p5 hG5
      refine thn (T.item (compCx X Nc scope s3.heap.objs.size s3 (upd H s.heap.objs.size (.lst [])) fp) rfl rfl rfl rfl i [] s5 σ5 H5 _ I5 (stat fr5) st5 go) fun r s6 ⟨u, hr, h6⟩ => ?_
      subst hr
      refine wpAny_bind (thn h6 fun _ s7 ⟨x, H7, I7, r7, y7, st7, fr7⟩ => ?_)
      obtain ⟨e7, o7, rep7⟩ := wk1 x H7 y7
      have I7' := I7.pinned (stat fr7) (T.obj _ _ st7)
      refine wpAny_bind (wpAny_mono (hg _ _ _ _ _ s7 σ5 H7 x u (pick caps ρ) ρ6 _ _ I7' r7 (S5.ext e7 (o7 S5.own)) rep7 hf6) (fun _ s8 ⟨σ8, H8, I8, e8, S8⟩ => ?_) fun _ _ z => z.elim)
      refine wpAny_bind (wpAny_mono (w6 _ s8 σ8 H8 I8 S8) (fun _ s9 ⟨H9, G9, I9, e9, o9, acc', G4, hl4, hG4, eG, p9⟩ => ?_) fun _ _ z => z.elim)
      subst eG
      refine wpAny_pure ⟨rfl, n, Nat.lt_succ_self _, i + 1, acc', σ8, H9, G4, by omega, by omega, I9.unpinned (pins := []), T.keep _ _ _ st7 fun b hb o e => (I9.pin (b, o) (List.mem_append_right _ (List.mem_append_right _ (mem_pinsAt hb e)))).1, fun b hb => ?_, e5.trans (e7.trans (e8.trans e9)), ?_, hG4, p9⟩
      · obtain ⟨o, e, d⟩ := T.obj _ _ st7 b hb
        exact (I9.pin (b, o) (List.mem_append_right _ (List.mem_append_right _ (mem_pinsAt hb e)))).2.1
      · obtain ⟨z1, z2⟩ := hle _ _ hf6
        have S9 := S8.ext e9 o9
        exact ⟨fun j e h => S9.env j e (z2 j e h), by rw [← S9.len, z1], o9⟩
  subst hs3
  exact codeAny_compStart_list (loop _ rfl) (T.self _ 0 _ _ _ st1 (loop _ rfl))

/-- the element is reckoned and laid onto the list -/
theorem wtail_emit {Xc : Cx} {ρ : Rho} {G : Gs} {D : Addr} {acc : List Dat} {Q : Gs → Prop} (hx : Xc.xe = fun _ _ => False) (hG : G D = some (.lst acc)) (hz : acc.length < sizeLine)
    (h : WE Xc ρ G elt fun v G' => G' D = some (.lst acc) ∧ Q (put G' D (.lst (acc ++ [v])))) : WTail Xc ρ G (emitT elt Xc.env (.ref D)) Q := by
  intro pins s σ H I S
  unfold emitT
  have h' := h pins s σ H I S
  rw [hx] at h'
  refine wpAny_bind (thn h' fun u s1 ⟨x, H1, I1, r1, d, G1, e1, o1, q1, hG1, z1⟩ => ?_)
  obtain ⟨vs, h1, r2⟩ := o1 D _ hG1
  have := mt_append (X := Xc) pins s1 σ H1 (.ref D) [x] (.ref D) [u] (fun _ H' => ∃ G', Ext H G H' G' ∧ GOk Xc.K H' G' ∧ Q G') I1 rfl (.cons r1 .nil) ⟨D, vs, x, rfl, rfl, h1, by rw [r2.length]; exact hz, by
    obtain ⟨E, O⟩ := own_set o1 hG1 (r2.append (RepL.cons q1 RepL.nil))
    exact ⟨_, e1.trans E, O, z1⟩⟩
  rw [hx] at this
  refine wpAny_bind (thn this fun _ s2 ⟨_, H2, I2, _, G2, e2, o2, z2⟩ => wpAny_pure ⟨H2, G2, I2, e2, o2, z2⟩)
theorem wtail_test {Xc : Cx} {ρ : Rho} {G : Gs} {D : Addr} {Q : Gs → Prop} (hx : Xc.xe = fun _ _ => False)
    (h : WT Xc ρ G c fun p G' => (p = true → WTail Xc ρ G' (emitT elt Xc.env (.ref D)) Q) ∧ (p = false → Q G')) : WTail Xc ρ G (testT c elt Xc.env (.ref D)) Q := by
  intro pins s σ H I S
  unfold testT
  have h' := h pins s σ H I S
  rw [hx] at h'
  refine wpAny_bind (thn h' fun p s1 ⟨H1, I1, G1, e1, o1, q1⟩ => ?_)
  cases p with
  | true =>
    rw [if_pos rfl]
    exact thn (q1.1 rfl pins s1 σ H1 I1 (S.ext e1 o1)) fun _ s2 ⟨H2, G2, I2, e2, o2, z2⟩ => ⟨H2, G2, I2, e1.trans e2, o2, z2⟩
  | false =>
    rw [if_neg Bool.false_ne_true]
    exact wpAny_pure ⟨H1, G1, I1, e1, o1, q1.2 rfl⟩
/-- a comprehension as an expression -/
theorem we_comp (Pv : Nat → List Dat → Gs → Prop) {Q : Dat → Gs → Prop} (ht : TurnIs elt target iter ifs scope cpos tail) (Sc : CompSc X scope Nc caps) (hcalm : X.calm = true) (hi : WI X ρ G target iter fun l' G' => l' = l ∧ Pv 0 [] G')
    (hg : ∀ C s' H' fp, PGD (compCx X Nc scope C s' H' fp) target f) (hle : ∀ d ρ', f d (pick caps ρ) = some ρ' → ρ'.length = (pick caps ρ).length ∧ ∀ (j : Nat) e, (pick caps ρ)[j]? = some (some e) → ρ'[j]? = some (some e)) (hz : l.length ≤ sizeLine)
    (hstep : ∀ C s' H' fp D i d acc G', l[i]? = some d → Pv i acc G' → G' D = none → ∃ ρ', f d (pick caps ρ) = some ρ' ∧
      WTail (compCx X Nc scope C s' H' fp) ρ' (put G' D (.lst acc)) (tail (compCx X Nc scope C s' H' fp).env (.ref D)) fun G'' => ∃ acc' G4, acc'.length ≤ acc.length + 1 ∧ G4 D = none ∧ G'' = put G4 D (.lst acc') ∧ Pv (i + 1) acc' G4)
    (hd : ∀ acc G', Pv l.length acc G' → Q (.lst acc) G') (hfs : ∀ x, foldedSetIterable iter X.env x = pure x := by intro _; rfl) : WE X ρ G (.ListComp elt [⟨target, iter, ifs, 0⟩] scope cpos) Q := by
  intro pins s σ H I S
  rw [eval_ListComp]
  refine wpAny_comprehension_free (use := none) rfl hfs (closureFor_ok fun x hx hf => I.ok.has x.1 (Sc.free x hx hf)) Sc.kind Sc.names ?_
  refine thn (hi pins s σ H I S) fun v s1 h1 => thn h1 fun itv s2 h2 => ?_
  obtain ⟨it, fp, tn, J, H2, e, I2, T, st2, f2, l', G2, e2, o2, wk, q, p0⟩ := h2
  subst e; subst q
  refine comp_core (RR := fun acc C => compPost (model X.prog X.w) X.A X.xe none (EP X pins σ (Po X H G Q)) acc C) Pv ht Sc hcalm hg hle hz hstep I2 (S.ext e2 o2) T st2 f2 wk p0 ?_
  rintro D C s3 sf σc Hf Gf acc k3 rfl ⟨H3, I3, f3, Ic⟩ ef of hGf pf
  obtain ⟨m, hm, _⟩ := Ic.loc
  refine ⟨m, hm, fun h' hs => ⟨.ref D, Hf, comp_leave I3 f3 Ic hs, rfl, .lst acc, Gf, ?_, ?_, ?_, hd acc Gf pf⟩⟩
  all_goals
    obtain ⟨E, O, R⟩ := own_rel (X := X) of put_same
    rw [rel_put hGf] at E O R
    first
    | exact e2.trans (ef.trans E)
    | exact O
    | exact R
end
end TF
set_option Elab.async false
set_option linter.all false
set_option maxRecDepth 100000
set_option maxHeartbeats 2000000
/-! Defs and calls over data -/
namespace TF
open PySem PySem.Spec L2
open PyProof.Rows hiding St RelV

/-- a def's promise over data -/
abbrev SpD := List Dat → Gs → (Dat → Gs → Prop) → Prop
def liftG (K : PySem.W.Frag) (S : SpD) : Sp := fun vs H Q _ => ∃ ds G R, GOk K H G ∧ RepL K (hid H G) ds vs ∧ S ds G R ∧ ∀ v H' d G', Ext H G H' G' → GOk K H' G' → Rep K (hid H' G') d v → R d G' → Q v H'
def startD (N : List Str) (ds : List Dat) : Rho := ds.map some ++ List.replicate (N.length - ds.length) none
theorem stt_start {X : Cx} {H : Hp} {N : List Str} {ds : List Dat} {vs : List V} {G : Gs} (o : GOk X.K H G) (r : RepL X.K (hid H G) ds vs) : Stt X H (start N vs) (startD N ds) G := by
  refine ⟨fun i d h => ?_, by unfold L2.start startD; rw [List.length_append, List.length_append, List.length_map, List.length_map, r.length, List.length_replicate, List.length_replicate], o⟩
  unfold startD at h
  by_cases hi : i < ds.length
  · rw [List.getElem?_append_left (by rw [List.length_map]; exact hi), List.getElem?_map] at h
    cases q : ds[i]? with
    | none => rw [q] at h; cases h
    | some d' =>
      rw [q] at h
      cases h
      obtain ⟨v, hv, rv⟩ := r.get q
      refine ⟨v, ?_, rv⟩
      unfold L2.start
      rw [List.getElem?_append_left (by rw [List.length_map, r.length]; exact hi), List.getElem?_map, hv]
      rfl
  · rw [List.getElem?_append_right (by rw [List.length_map]; omega), List.length_map] at h
    exfalso
    have := List.mem_of_getElem? h
    rw [List.mem_replicate] at this
    cases this.2
section
variable {P : Program} {w : World} {K : PySem.W.Frag} {mg : Str → Option Value} {base : Heap}
/-- THE RULE for a def -/
theorem fn_d {x qual : Str} {st : Stmt} {f : Addr} {fd : FuncData} {N ps : List Str} {k : Nat} {S : SpD} (F : Fun K x qual st f fd) (Sc : FnScope N ps (defScope st)) (hlen : ∀ ds G R, S ds G R → ds.length = ps.length)
    (hb : ∀ (cdv : Value) (A : Around) (outer : List Env) (s : Shared) (H : Hp) (E : XK) (ds : List Dat) (G : Gs) (R : Dat → Gs → Prop), Room k (A.deeper (envOfC qual (defScope st) s.heap.objs.size f cdv)) → S ds G R →
      WSs (cxOf CX0 P w K mg base N qual (defScope st) f cdv A outer s H E).nox (startD N ds) G (defBody st) { nx := fun _ G' => R .non G', rt := R }) : FnOk P w K mg base CX0 (k + 1) f fd ps (liftG K S) := by
  refine F.ok Sc (fun vs H Q E h => ?_) (fun cdv A outer s H vs Q E hr h => ?_)
  · obtain ⟨ds, G, R, _, r, hS, _⟩ := h
    rw [r.length]; exact hlen ds G R hS
  · obtain ⟨ds, G, R, o, r, hS, k⟩ := h
    refine ⟨tWSs _ (defBody st), pss_ws, startD N ds, G, _, hb cdv A outer s H E ds G R hr hS, stt_start o r, ?_, ?_, ?_, ?_⟩
    · rintro σ' H' ⟨ρ', G', e', S', q⟩
      exact k .non H' .non G' e' S'.own rfl q
    · rintro v H' ⟨d, G', e', o', r', q⟩
      exact k v H' d G' e' o' r' q
    · rintro σ' H' ⟨_, _, _, _, q⟩; exact q
    · rintro σ' H' ⟨_, _, _, _, q⟩; exact q
end
section
variable {X : Cx} {ρ : Rho} {G : Gs} {e : Expr} {es : List Expr} {ds : List Dat} {pos p : Pos} {S : SpD} {k : Nat} {f : Addr} {fd : FuncData} {ps : List Str} {x : Str} {Q : Dat → Gs → Prop}
theorem we_call (F : FnOk X.prog X.w X.K X.mg X.base CX0 k f fd ps (liftG X.K S)) (hr : Room k X.A) (hm : X.mg x = some (.ref f)) (hk : PySem.W.keepIn X.K (.ref f) = true) (hb : Binds X.K fd ps []) (ha : PXs X ρ G (e :: es) ds) (hS : S ds G Q) (hg : Gl X x := by rfl)
    (hdb : (x == ("__debug__" : Str)) = false := by decide) (he : starEach (e :: es) X.env = (false, eval e X.env) :: starEach es X.env := by rfl) (hpl : (backTo pos (starEach es X.env)).any (·.1) = false := by rfl) : WE X ρ G (.Call (.Name x p) (e :: es) [] pos) Q :=
  we_pe (pe_call F hr hg hm hk hb .nil pass0 pa_wa hdb he hpl) fun σ H St => ⟨ρ, G, _, ha, St, fun vs H1 ⟨_, _, e1, o1, r1, q1, q1'⟩ => by
    subst q1; subst q1'
    refine ⟨_, _, Q, o1, by rw [List.append_nil]; exact r1, hS, fun v H' d G' e' o' r' q' => ⟨d, G', e1.trans e', o', r', q'⟩⟩⟩
/-- a def that changes nothing: what it asks, what it answers -/
def pureS (n : Nat) (pre : List Dat → Prop) (F : List Dat → Dat) : SpD := fun ds G R => ds.length = n ∧ pre ds ∧ R (F ds) G
theorem px_call {n : Nat} {pre : List Dat → Prop} {Fn : List Dat → Dat} (F : FnOk X.prog X.w X.K X.mg X.base CX0 k f fd ps (liftG X.K (pureS n pre Fn))) (hr : Room k X.A) (hm : X.mg x = some (.ref f)) (hk : PySem.W.keepIn X.K (.ref f) = true) (hb : Binds X.K fd ps []) (ha : PXs X ρ G (e :: es) ds)
    (hn : ds.length = n) (hp : pre ds) (hg : Gl X x := by rfl) (hdb : (x == ("__debug__" : Str)) = false := by decide) (he : starEach (e :: es) X.env = (false, eval e X.env) :: starEach es X.env := by rfl) (hpl : (backTo pos (starEach es X.env)).any (·.1) = false := by rfl) : PX X ρ G (.Call (.Name x p) (e :: es) [] pos) (Fn ds) :=
  we_call F hr hm hk hb ha ⟨hn, hp, rfl, rfl⟩ hg hdb he hpl
end
/-- a def of the module, all that a call asks -/
structure Df (P : Program) (w : World) (K : PySem.W.Frag) (mg : Str → Option Value) (base : Heap) (x : Str) (ps : List Str) (k : Nat) (S : SpD) : Prop where
  ex : ∃ f fd, FnOk P w K mg base CX0 k f fd ps (liftG K S) ∧ mg x = some (.ref f) ∧ PySem.W.keepIn K (.ref f) = true ∧ Binds K fd ps []
section
variable {X : Cx} {ρ : Rho} {G : Gs} {e : Expr} {es : List Expr} {ds : List Dat} {pos p : Pos} {S : SpD} {k : Nat} {ps : List Str} {x : Str} {Q : Dat → Gs → Prop}
theorem we_df (F : Df X.prog X.w X.K X.mg X.base x ps k S) (hr : Room k X.A) (ha : PXs X ρ G (e :: es) ds) (hS : S ds G Q) (hg : Gl X x := by rfl)
    (hdb : (x == ("__debug__" : Str)) = false := by decide) (he : starEach (e :: es) X.env = (false, eval e X.env) :: starEach es X.env := by rfl) (hpl : (backTo pos (starEach es X.env)).any (·.1) = false := by rfl) : WE X ρ G (.Call (.Name x p) (e :: es) [] pos) Q := by
  obtain ⟨f, fd, F, hm, hk, hb⟩ := F.ex
  exact we_call F hr hm hk hb ha hS hg hdb he hpl
theorem px_df {n : Nat} {pre : List Dat → Prop} {Fn : List Dat → Dat} (F : Df X.prog X.w X.K X.mg X.base x ps k (pureS n pre Fn)) (hr : Room k X.A) (ha : PXs X ρ G (e :: es) ds) (hn : ds.length = n) (hp : pre ds) (hg : Gl X x := by rfl)
    (hdb : (x == ("__debug__" : Str)) = false := by decide) (he : starEach (e :: es) X.env = (false, eval e X.env) :: starEach es X.env := by rfl) (hpl : (backTo pos (starEach es X.env)).any (·.1) = false := by rfl) : PX X ρ G (.Call (.Name x p) (e :: es) [] pos) (Fn ds) :=
  we_df F hr ha ⟨hn, hp, rfl, rfl⟩ hg hdb he hpl
end
end TF
set_option Elab.async false
set_option linter.all false
set_option maxRecDepth 100000
set_option maxHeartbeats 2000000
/-! Dicts whose keys are tuples of ints and of tuples -/
namespace TF
open PySem PySem.Spec L2
open PyProof.Rows hiding St RelV

mutual
def Dat.same : Dat → Dat → Bool
  | .non, .non => true
  | .bl a, .bl b => a == b
  | .int a, .int b => a == b
  | .str a, .str b => a == b
  | .fn a, .fn b => a == b
  | .scr a, .scr b => a == b
  | .tup l, .tup m => Dat.sameL l m
  | .lst l, .lst m => Dat.sameL l m
  | _, _ => false
def Dat.sameL : List Dat → List Dat → Bool
  | [], [] => true
  | x :: xs, y :: ys => Dat.same x y && Dat.sameL xs ys
  | _, _ => false
end
mutual
theorem Dat.same_eq : ∀ {a b : Dat}, Dat.same a b = true → a = b
  | .non, b, h => by cases b <;> simp_all [Dat.same]
  | .bl _, b, h => by cases b <;> simp_all [Dat.same]
  | .int _, b, h => by cases b <;> simp_all [Dat.same]
  | .str _, b, h => by cases b <;> simp_all [Dat.same]
  | .fn _, b, h => by cases b <;> simp_all [Dat.same]
  | .scr _, b, h => by cases b <;> simp_all [Dat.same]
  | .tup l, b, h => by
    cases b <;> simp only [Dat.same, Bool.false_eq_true] at h
    rw [Dat.sameL_eq h]
  | .lst l, b, h => by
    cases b <;> simp only [Dat.same, Bool.false_eq_true] at h
    rw [Dat.sameL_eq h]
theorem Dat.sameL_eq : ∀ {a b : List Dat}, Dat.sameL a b = true → a = b
  | [], b, h => by cases b <;> simp_all [Dat.sameL]
  | x :: xs, b, h => by
    cases b with
    | nil => simp [Dat.sameL] at h
    | cons y ys =>
      simp only [Dat.sameL, Bool.and_eq_true] at h
      rw [Dat.same_eq h.1, Dat.sameL_eq h.2]
end
mutual
theorem Dat.same_refl : ∀ (a : Dat), Dat.same a a = true
  | .non => by simp [Dat.same]
  | .bl _ => by simp [Dat.same]
  | .int _ => by simp [Dat.same]
  | .str _ => by simp [Dat.same]
  | .fn _ => by simp [Dat.same]
  | .scr _ => by simp [Dat.same]
  | .tup l => by simp only [Dat.same]; exact Dat.sameL_refl l
  | .lst l => by simp only [Dat.same]; exact Dat.sameL_refl l
theorem Dat.sameL_refl : ∀ (a : List Dat), Dat.sameL a a = true
  | [] => by simp [Dat.sameL]
  | x :: xs => by simp only [Dat.sameL, Bool.and_eq_true]; exact ⟨Dat.same_refl x, Dat.sameL_refl xs⟩
end
instance : DecidableEq Dat := fun a b => decidable_of_iff (Dat.same a b = true) ⟨Dat.same_eq, fun h => h ▸ Dat.same_refl a⟩

theorem keyD_plain : ∀ {n : Nat} {d : Dat}, keyD n d = true → plainD n d = true := by
  intro n
  induction n with
  | zero => intro d h; cases d <;> simp_all [keyD, plainD, flatD]
  | succ n ih =>
    intro d h
    cases d <;> simp only [keyD, Bool.false_eq_true] at h <;> first | rfl | skip
    simp only [plainD, List.all_eq_true] at h ⊢
    exact fun x hx => ih (h x hx)
theorem eqD_key : ∀ {n : Nat} {d e : Dat}, keyD n d = true → keyD n e = true → eqD d e = decide (d = e) := by
  intro n
  induction n with
  | zero =>
    intro d e h h'
    cases d <;> simp only [keyD, Bool.false_eq_true] at h <;> cases e <;> simp only [keyD, Bool.false_eq_true] at h'
    rename_i a b
    by_cases z : a = b <;> simp [eqD, z]
  | succ n ih =>
    have hl : ∀ (l m : List Dat), l.all (keyD n) = true → m.all (keyD n) = true → eqL l m = decide (l = m) := by
      intro l
      induction l with
      | nil => intro m _ _; cases m <;> simp [eqL]
      | cons x l ihl =>
        intro m h h'
        cases m with
        | nil => simp [eqL]
        | cons y m =>
          simp only [List.all_cons, Bool.and_eq_true] at h h'
          rw [eqL, ih h.1 h'.1, ihl m h.2 h'.2]
          by_cases z1 : x = y <;> by_cases z2 : l = m <;> simp [z1, z2]
    intro d e h h'
    cases d <;> simp only [keyD, Bool.false_eq_true] at h <;> cases e <;> simp only [keyD, Bool.false_eq_true] at h'
    · rename_i a b
      by_cases z : a = b <;> simp [eqD, z]
    · simp [eqD]
    · simp [eqD]
    · rename_i l m
      rw [eqD, hl l m h h']
      by_cases z : l = m <;> simp [z]
mutual
def drawD : Dat → Nat
  | .tup l => drawL l + 1
  | _ => 1
def drawL : List Dat → Nat
  | [] => 0
  | d :: r => drawD d + drawL r
end
theorem hashL_append : ∀ (a b : List Dat), hashL (a ++ b) = hashL a ++ hashL b
  | [], _ => by simp [hashL]
  | d :: a, b => by simp only [List.cons_append, hashL]; rw [hashL_append a b]
theorem drawL_append : ∀ (a b : List Dat), drawL (a ++ b) = drawL a + drawL b
  | [], _ => by simp [drawL]
  | d :: a, b => by simp only [List.cons_append, drawL]; rw [drawL_append a b]; omega
section
variable {prog : Program} {w : World}
theorem hash_of : ∀ (n : Nat) {A : Around} {E : Value → Shared → Prop} {s : Shared} {d : Dat} {u : Value} {Q : Int → Shared → Prop}, keyD n d = true → AtH s.heap d u → A.units + n < cLine → Q (hashD d) { s with toks := s.toks + drawD d } →
    wpAny (model prog w) A (pyHash u) Q E s := by
  have onInt : ∀ {A : Around} {E : Value → Shared → Prop} {s : Shared} {i : Int} {u : Value} {Q : Int → Shared → Prop}, AtH s.heap (.int i) u → Q (hashD (.int i)) { s with toks := s.toks + drawD (.int i) } → wpAny (model prog w) A (pyHash u) Q E s := by
    intro A E s i u Q r h
    rw [AtH] at r
    obtain ⟨t, rfl⟩ := r
    rw [hashD, drawD] at h
    · exact wpAny_pyHash_int h
    · intro l; exact nofun
  intro n
  induction n with
  | zero =>
    intro A E s d u Q hk r hu h
    cases d <;> simp only [keyD, Bool.false_eq_true] at hk
    exact onInt r h
  | succ n ih =>
    intro A E s d u Q hk r hu h
    cases d <;> simp only [keyD, Bool.false_eq_true] at hk
    · exact onInt r h
    rename_i l
    rw [AtH] at r
    obtain ⟨a, its, rfl, ht, hi⟩ := r
    have hT : s.TypeIs (.ref a) "tuple" := let ⟨o, ho, hc, _⟩ := ht; ⟨o, ho, hc⟩
    obtain ⟨o, ho, _, m, hd⟩ := ht
    unfold pyHash
    first | unfold pyHashByItsType | skip
    first | refine wpAny_bind (wpAny_cRoomFor_or (.inr (by omega)) ?_) | skip
    refine wpAny_bind (wpAny_specialOf hT F.slot_tuple_hash.lookup ?_)
    show wpAny _ _ (if (some (Value.builtin "tuple.__hash__") == some Value.none) = true then _ else _) Q E s
    rw [if_neg (by rw [beq_builtin_none]; exact Bool.false_ne_true)]
    refine wpAny_bind (wpAny_specialOf hT F.slot_tuple_hash.lookup ?_)
    show wpAny _ _ (callSpecialIfBoundUnlessNone? (.ref a) "__hash__" _ >>= _) Q E s
    refine wpAny_bind (wpAny_callSpecialIfBoundUnlessNone?_slot hT F.slot_tuple_hash (wpAny_call_entry F.slot_tuple_hash hT F.entry_tuple_hash ?_ (F.args_tuple_hash_1 _)))
    show wpAny _ _ (Builtin.Tuple.tupleItemsOf (.ref a) >>= _) _ _ s
    refine wpAny_bind (wpAny_tupleItemsOf ho hd ?_)
    refine wpAny_bind ?_
    rw [← Array.forIn_toList]
    refine wpAny_forIn_list _
      (fun rest (b : Array Int) s' => ∃ done left, l = done ++ left ∧ AtL s.heap left rest ∧ b.toList = hashL done ∧ s' = { s with toks := s.toks + drawL done })
      _ ?_ ?_ _ _ ⟨[], l, rfl, hi, rfl, rfl⟩
    · rintro x rest b s' ⟨done, left, rfl, hl, hb, rfl⟩
      cases left with
      | nil => rw [AtL] at hl; cases hl
      | cons k ks' =>
        rw [AtL] at hl
        obtain ⟨u, r, e, h1, hl'⟩ := hl
        cases e
        have hkk : keyD n k = true := by
          have := List.all_eq_true.mp hk k (by simp)
          exact this
        refine wpAny_bind (ih hkk h1 (by show A.units + 1 + n < cLine; omega) ?_)
        have fin : ∃ done' left', done ++ k :: ks' = done' ++ left' ∧ AtL s.heap left' rest ∧ (b.push (hashD k)).toList = hashL done' ∧ ({ s with toks := s.toks + drawL done + drawD k } : Shared) = { s with toks := s.toks + drawL done' } :=
          ⟨done ++ [k], ks', by simp, hl', by simp [hb, hashL_append, hashL], by rw [drawL_append]; simp [drawL, Nat.add_assoc]⟩
        first
          | exact wpAny_pure fin
          | exact wpAny_bind (wpAny_pure (wpAny_pure fin))
    · rintro b s' ⟨done, left, rfl, hl, hb, rfl⟩
      cases left with
      | cons k ks' => rw [AtL] at hl; obtain ⟨_, _, e, _⟩ := hl; cases e
      | nil =>
        rw [List.append_nil, hashD, drawD] at h
        show wpAny _ _ (retInt (Builtin.Tuple.tupleHashOf b.toList)) _ _ _
        rw [hb]
        refine wpAny_ret_mkInt ?_
        show wpAny _ _ (if (decide (-(2 : Int) ^ 63 ≤ Builtin.Tuple.tupleHashOf (hashL done)) && decide (Builtin.Tuple.tupleHashOf (hashL done) < 2 ^ 63)) = true then _ else _) Q E _
        unfold reduceHash at h
        by_cases hr : (decide (-(2 : Int) ^ 63 ≤ Builtin.Tuple.tupleHashOf (hashL done)) && decide (Builtin.Tuple.tupleHashOf (hashL done) < 2 ^ 63)) = true
        · rw [if_pos hr]
          rw [if_pos hr] at h
          exact wpAny_pure (by simpa [Nat.add_assoc] using h)
        · rw [if_neg hr]
          rw [if_neg hr] at h
          exact wpAny_bind (wpAny_rule (wpAny_pure (by simpa [Nat.add_assoc] using h)))
theorem quiet_of : ∀ (n m : Nat) {A : Around} {E : Value → Shared → Prop} {s : Shared} {d : Dat} {u : Value} {Q : Bool → Shared → Prop}, n ≤ m → keyD n d = true → AtH s.heap d u → Q true s → wpAny (model prog w) A (eqIsQuiet m u) Q E s := by
  have onInt : ∀ {m : Nat} {A : Around} {E : Value → Shared → Prop} {s : Shared} {i : Int} {u : Value} {Q : Bool → Shared → Prop}, AtH s.heap (.int i) u → Q true s → wpAny (model prog w) A (eqIsQuiet m u) Q E s := by
    intro m A E s i u Q r h
    rw [AtH] at r
    obtain ⟨t, rfl⟩ := r
    rw [eqIsQuiet_byValue m rfl]
    exact wpAny_pure h
  intro n
  induction n with
  | zero =>
    intro m A E s d u Q _ hk r h
    cases d <;> simp only [keyD, Bool.false_eq_true] at hk
    exact onInt r h
  | succ n ih =>
    intro m A E s d u Q hm hk r h
    cases d <;> simp only [keyD, Bool.false_eq_true] at hk
    · exact onInt r h
    rename_i l
    obtain ⟨m', rfl⟩ : ∃ m', m = m' + 1 := ⟨m - 1, by omega⟩
    rw [AtH] at r
    obtain ⟨a, its, rfl, ht, hi⟩ := r
    have hT : s.TypeIs (.ref a) "tuple" := let ⟨o, ho, hc, _⟩ := ht; ⟨o, ho, hc⟩
    obtain ⟨o, ho, _, q, hd⟩ := ht
    unfold eqIsQuiet
    refine wpAny_bind (wpAny_specialOf hT F.slot_tuple_eq.lookup ?_)
    show wpAny _ _ (isInstance (.ref a) (.type "tuple") >>= _) _ _ s
    refine wpAny_bind (wpAny_isInstance hT isSubtype_tuple_tuple ?_)
    simp only [Bool.not_true, Bool.false_eq_true, if_false]
    refine wpAny_bind (wpAny_seqItems ho hd ?_)
    refine wpAny_bind ?_
    show wpAny _ _ (forIn its.toArray _ _) _ _ s
    rw [← Array.forIn_toList]
    refine wpAny_forIn_list _ (fun rest r s' => r.1 = none ∧ s' = s ∧ ∃ left, AtL s.heap left rest ∧ left.all (keyD n) = true) _ ?_ ?_ _ _ ⟨rfl, rfl, l, hi, hk⟩
    · rintro v rest r s' ⟨hr, rfl, left, hl, hall⟩
      cases left with
      | nil => rw [AtL] at hl; cases hl
      | cons k ks =>
        rw [AtL] at hl
        obtain ⟨u, r', e, h1, hl'⟩ := hl
        cases e
        simp only [List.all_cons, Bool.and_eq_true] at hall
        refine wpAny_bind (ih m' (by omega) hall.1 h1 ?_)
        simp only [Bool.not_true, Bool.false_eq_true, if_false]
        exact wpAny_pure ⟨rfl, rfl, ks, hl', hall.2⟩
    · rintro ⟨r1, r2⟩ s' ⟨hr, rfl, _⟩
      simp only at hr
      subst hr
      exact wpAny_pure h
/-- a tuple of the heap as a key -/
def KeyAt (h : Heap) (k : Dat) (a : Addr) : Prop := keyD 6 k = true ∧ AtH h k (.ref a)
mutual
theorem AtH.keeps {h h' : Heap} {d : Addr} {o : Obj} {es ep} (ho : h.get? d = some o) (hd : o.data = .dict es ep) (hs : Heap.SameBut d h h') : ∀ {k : Dat} {u : Value}, AtH h k u → AtH h' k u
  | .non, _, r => by rw [AtH] at r ⊢; exact r
  | .bl _, _, r => by rw [AtH] at r ⊢; exact r
  | .int _, _, r => by rw [AtH] at r ⊢; exact r
  | .str _, _, r => by rw [AtH] at r ⊢; exact r
  | .fn _, _, r => by rw [AtH] at r ⊢; exact r
  | .scr _, _, r => by rw [AtH] at r; exact r.elim
  | .tup l, _, r => by
    rw [AtH] at r ⊢
    obtain ⟨a, its, e, ⟨o', h1, h2, n, h3⟩, h4⟩ := r
    have hne : a ≠ d := by
      rintro rfl
      rw [ho] at h1; cases h1
      rw [hd] at h3; cases h3
    exact ⟨a, its, e, ⟨o', (hs.2 a hne).trans h1, h2, n, h3⟩, AtL.keeps ho hd hs h4⟩
  | .lst l, _, r => by
    rw [AtH] at r ⊢
    obtain ⟨a, its, e, ⟨o', h1, h2, n, h3⟩, h4⟩ := r
    have hne : a ≠ d := by
      rintro rfl
      rw [ho] at h1; cases h1
      rw [hd] at h3; cases h3
    exact ⟨a, its, e, ⟨o', (hs.2 a hne).trans h1, h2, n, h3⟩, AtL.keeps ho hd hs h4⟩
theorem AtL.keeps {h h' : Heap} {d : Addr} {o : Obj} {es ep} (ho : h.get? d = some o) (hd : o.data = .dict es ep) (hs : Heap.SameBut d h h') : ∀ {k : List Dat} {u : List Value}, AtL h k u → AtL h' k u
  | [], _, r => by rw [AtL] at r ⊢; exact r
  | _ :: _, _, r => by
    rw [AtL] at r ⊢
    obtain ⟨u, q, e, h1, h2⟩ := r
    exact ⟨u, q, e, AtH.keeps ho hd hs h1, AtL.keeps ho hd hs h2⟩
end
def datKind (prog : Program) (w : World) : HeapKind prog w Dat where
  is := KeyAt
  hash := hashD
  draws := drawD
  room := fun A => A.units + 6 < cLine
  inj := fun hx hy => AtH.inj 6 (keyD_plain hx.1) (keyD_plain hy.1) hx.2 hy.2
  keeps := fun x ho hd hs => ⟨x.1, x.2.keeps ho hd hs⟩
  pyHash := fun hu hk h => hash_of 6 hk.1 hk.2 hu h
  eqBool := fun hu hx hy h => (eqAt_D 6 (keyD_plain hx.1) (keyD_plain hy.1) hx.2 hy.2 hu).1 _ _ _ _ (by rw [eqD_key hx.1 hy.1]; exact h)
  quiet := fun hk h => quiet_of 6 8 (by decide) hk.1 hk.2 h
end
end TF
set_option Elab.async false
set_option linter.all false
set_option maxRecDepth 100000
set_option maxHeartbeats 2000000
/-! Dicts over data: rules -/
namespace TF
open PySem PySem.Spec L2
open PyProof.Rows hiding St RelV
def lookD (kvs : List (Dat × Dat)) (k : Dat) : Option Dat := (kvs.find? fun x => decide (x.1 = k)).map (·.2)
def putD (kvs : List (Dat × Dat)) (k v : Dat) : List (Dat × Dat) := if (lookD kvs k).isSome then kvs.map (fun x => if x.1 = k then (x.1, v) else x) else kvs ++ [(k, v)]
theorem putD_new {kvs : List (Dat × Dat)} {k v : Dat} (h : lookD kvs k = none) : putD kvs k v = kvs ++ [(k, v)] := by simp [putD, h]
theorem DRep.length {K : PySem.W.Frag} {H : Hp} : ∀ {kvs : List (Dat × Dat)} {xs : List (Dat × Addr × Value)}, DRep K H kvs xs → xs.length = kvs.length
  | [], _, h => by rw [DRep] at h; subst h; rfl
  | (k, d) :: r, _, h => by
    rw [DRep] at h
    obtain ⟨a, u, xs', rfl, _, _, _, h6⟩ := h
    rw [List.length_cons, List.length_cons, DRep.length h6]
theorem DRep.keys {K : PySem.W.Frag} {H : Hp} : ∀ {kvs : List (Dat × Dat)} {xs : List (Dat × Addr × Value)}, DRep K H kvs xs → ∀ x ∈ xs, keyD 6 x.1 = true ∧ Rep K H x.1 (.ref x.2.1)
  | [], _, h, x, hx => by rw [DRep] at h; subst h; cases hx
  | (k, d) :: r, _, h, x, hx => by
    rw [DRep] at h
    obtain ⟨a, u, xs', rfl, h2, h3, _, h6⟩ := h
    rcases List.mem_cons.mp hx with e | hx
    · subst e; exact ⟨h2, h3⟩
    · exact DRep.keys h6 x hx
theorem DRep.look {K : PySem.W.Frag} {H : Hp} (k : Dat) : ∀ {kvs : List (Dat × Dat)} {xs : List (Dat × Addr × Value)}, DRep K H kvs xs → (lookD kvs k).isSome = (atKey xs k).isSome ∧ ∀ d, lookD kvs k = some d → ∃ p v, atKey xs k = some p ∧ RelV v p.2 ∧ Rep K H d v
  | [], _, h => by rw [DRep] at h; subst h; exact ⟨rfl, fun d e => by simp [lookD] at e⟩
  | (k', d') :: r, _, h => by
    rw [DRep] at h
    obtain ⟨a, u, xs', rfl, _, _, ⟨v, h4, h5⟩, h6⟩ := h
    by_cases e : k' = k
    · subst e
      refine ⟨by simp [lookD, atKey], fun d hd => ⟨(a, u), v, by simp [atKey], h4, ?_⟩⟩
      simp [lookD] at hd
      subst hd
      exact h5
    · have := DRep.look k h6
      have e1 : lookD ((k', d') :: r) k = lookD r k := by simp [lookD, e]
      have e2 : atKey ((k', a, u) :: xs') k = atKey xs' k := by simp [atKey, e]
      rw [e1, e2]
      exact this
theorem DRep.put {K : PySem.W.Frag} {H : Hp} {k d : Dat} {a : Addr} {u : Value} {v : V} (hk : keyD 6 k = true) (ra : Rep K H k (.ref a)) (ru : RelV v u) (rd : Rep K H d v) {kvs : List (Dat × Dat)} {xs : List (Dat × Addr × Value)} (h : DRep K H kvs xs) :
    DRep K H (putD kvs k d) (storedH xs k a u) := by
  have look := (DRep.look k h).1
  have app : ∀ {kvs : List (Dat × Dat)} {xs : List (Dat × Addr × Value)}, DRep K H kvs xs → DRep K H (kvs ++ [(k, d)]) (xs ++ [(k, a, u)]) := by
    intro kvs
    induction kvs with
    | nil => intro xs h; rw [DRep] at h; subst h; exact ⟨a, u, [], rfl, hk, ra, ⟨v, ru, rd⟩, rfl⟩
    | cons p r ih =>
      intro xs h
      obtain ⟨k', d'⟩ := p
      rw [DRep] at h
      obtain ⟨a', u', xs', rfl, h2, h3, h4, h6⟩ := h
      exact ⟨a', u', _, rfl, h2, h3, h4, ih h6⟩
  have map : ∀ {kvs : List (Dat × Dat)} {xs : List (Dat × Addr × Value)}, DRep K H kvs xs → DRep K H (kvs.map fun x => if x.1 = k then (x.1, d) else x) (xs.map (putAt k u)) := by
    intro kvs
    induction kvs with
    | nil => intro xs h; rw [DRep] at h; subst h; rfl
    | cons p r ih =>
      intro xs h
      obtain ⟨k', d'⟩ := p
      rw [DRep] at h
      obtain ⟨a', u', xs', rfl, h2, h3, h4, h6⟩ := h
      rw [List.map_cons, List.map_cons]
      by_cases e : k' = k
      · simp only [e, if_true, putAt]
        subst e
        exact ⟨a', u, _, rfl, h2, h3, ⟨v, ru, rd⟩, ih h6⟩
      · simp only [e, if_false, putAt]
        exact ⟨a', u', _, rfl, h2, h3, h4, ih h6⟩
  unfold putD storedH
  rw [look]
  by_cases e : (atKey xs k).isSome = true
  · rw [if_pos e, if_pos e]; exact map h
  · rw [if_neg e, if_neg e]; exact app h
section
variable {X : Cx} {pins : List (Addr × Obj)} {σ : St} {H : Hp} {s : Shared} {p : Addr} {G : Gs} {kvs : List (Dat × Dat)} {xs : List (Dat × Addr × Value)}
theorem Inv.big (I : Inv X pins σ H s) : sysModules < s.heap.objs.size := by
  have h : mainGlobals < s.heap.objs.size := (I.mod.glob.keeps I.bk).lt
  exact Nat.lt_trans (by decide) h
theorem key_at (I : Inv X pins σ H s) {k : Dat} {a : Addr} (hk : keyD 6 k = true) (r : Rep X.K H k (.ref a)) : KeyAt s.heap k a := ⟨hk, r.at I (keyD_plain hk) rfl⟩
theorem dict_of (I : Inv X pins σ H s) (h : H p = some (dctO p xs)) (r : DRep X.K H kvs xs) : (p == sysModules) = false ∧ xs.length ≤ sizeLine ∧ s.heap.DictOfH (datKind X.prog X.w) p xs := by
  obtain ⟨⟨h1, h2, h3, o, es, ep, h4, h5, h6, h7⟩, _, _⟩ := (show ObjOk X.prog X.w H s.heap p (.ext (DictAt p xs)) from I.hok p _ h)
  exact ⟨h1, h2, o, es, ep, h4, h5, h6, h7, fun x hx => key_at I (r.keys x hx).1 (r.keys x hx).2, h3⟩
theorem dct_ok {P : Program} {w : World} {H : Hp} {h : Heap} (d : DictAt p xs h) : ObjOk P w H h p (dctO p xs) := by
  obtain ⟨h1, h2, h3, o, es, ep, h4, h5⟩ := id d
  exact ⟨d, ⟨o, h4⟩, fun k1 k2 ⟨g1, g2, g3, o', es', ep', g4, g5⟩ hk => ⟨g1, g2, g3, o', es', ep', hk _ g4, g5⟩⟩
/-- an own dict is written -/
theorem own_dct {xs' : List (Dat × Addr × Value)} {kvs' : List (Dat × Dat)} (o : GOk X.K H G) (hG : G p = some (.dct kvs)) (r : DRep X.K (hid H G) kvs' xs') : Ext H G (upd H p (dctO p xs')) (put G p (.dct kvs')) ∧ GOk X.K (upd H p (dctO p xs')) (put G p (.dct kvs')) := by
  have E : Ext H G (upd H p (dctO p xs')) (put G p (.dct kvs')) := ⟨fun b u e h => by
    have : b ≠ p := by rintro rfl; rw [hG] at h; cases h
    rw [upd_ne this]; exact e, fun b h => by
    by_cases hb : b = p
    · subst hb; left; rw [hG]; exact nofun
    · rw [put_ne hb] at h; exact .inl h⟩
  refine ⟨E, fun b u q => ?_⟩
  by_cases hb : b = p
  · subst hb
    rw [put_same] at q
    cases q
    exact ⟨xs', upd_same, r.same E.hid⟩
  · rw [put_ne hb] at q
    exact (o b u q).ext E.hid (upd_ne hb)
theorem own_dctN (o : GOk X.K H G) (hp : H p = none) : Ext H G (upd H p (dctO p [])) (put G p (.dct [])) ∧ GOk X.K (upd H p (dctO p [])) (put G p (.dct [])) := by
  have E : Ext H G (upd H p (dctO p [])) (put G p (.dct [])) := ⟨fun b u e _ => by rw [upd_ne (ne_of_none e hp)]; exact e, fun b h => by
    by_cases hb : b = p
    · subst hb; exact .inr hp
    · rw [put_ne hb] at h; exact .inl h⟩
  refine ⟨E, fun b u q => ?_⟩
  by_cases hb : b = p
  · subst hb
    rw [put_same] at q
    cases q
    exact ⟨[], upd_same, rfl⟩
  · rw [put_ne hb] at q
    exact (o b u q).ext E.hid (upd_ne hb)
end
section
variable {X : Cx} {ρ : Rho} {G : Gs} {e a b c : Expr} {d k : Dat} {p : Addr} {kvs : List (Dat × Dat)} {pos : Pos}
theorem pxc_dnotin (hu : X.A.units + 9 < cLine) (ha : PX X ρ G a k) (hb : PX X ρ G b (.fn p)) (hG : G p = some (.dct kvs)) (hk : keyD 6 k = true) (hr : ∃ l, k = .tup l) : PXC X ρ G .NotIn a b (.bl (!(lookD kvs k).isSome)) := by
  intro pins s σ H I S
  refine thn (ha pins s σ H I S) fun v s1 ⟨x, H1, I1, rx, _, _, e1, o1, r1, q1, q1'⟩ => ?_
  subst q1; subst q1'
  refine thn (hb pins s1 σ H1 I1 (S.ext e1 o1)) fun u s2 ⟨y, H2, I2, ry, _, _, e2, o2, r2, q2, q2'⟩ => ?_
  subst q2; subst q2'
  cases (show y = V.ref p from r2)
  cases ry
  obtain ⟨l, rfl⟩ := hr
  have r1' := (r1.same e2.hid).same hid_le
  have hx : ∃ t, x = V.ref t := by rw [Rep] at r1'; obtain ⟨t, _, e, _⟩ := r1'; exact ⟨t, e⟩
  obtain ⟨t, rfl⟩ := hx
  cases rx
  obtain ⟨xs, h3, r3⟩ := o2 p _ hG
  obtain ⟨z1, z2, dd⟩ := dict_of I2 h3 (r3.same hid_le)
  refine wpAny_notIn_heap (knd := datKind X.prog X.w) (show X.A.units + 1 + 6 < cLine by omega) (key_at I2 hk r1') z1 dd ⟨.bl _, H2, I2.tok _, rfl, .bl _, _, e1.trans e2, o2, ?_, rfl, rfl⟩
  rw [← (DRep.look _ r3).1]
  rfl
theorem pxc_din (hu : X.A.units + 9 < cLine) (ha : PX X ρ G a k) (hb : PX X ρ G b (.fn p)) (hG : G p = some (.dct kvs)) (hk : keyD 6 k = true) (hr : ∃ l, k = .tup l) : PXC X ρ G .In a b (.bl (lookD kvs k).isSome) := by
  intro pins s σ H I S
  refine thn (ha pins s σ H I S) fun v s1 ⟨x, H1, I1, rx, _, _, e1, o1, r1, q1, q1'⟩ => ?_
  subst q1; subst q1'
  refine thn (hb pins s1 σ H1 I1 (S.ext e1 o1)) fun u s2 ⟨y, H2, I2, ry, _, _, e2, o2, r2, q2, q2'⟩ => ?_
  subst q2; subst q2'
  cases (show y = V.ref p from r2)
  cases ry
  obtain ⟨l, rfl⟩ := hr
  have r1' := (r1.same e2.hid).same hid_le
  have hx : ∃ t, x = V.ref t := by rw [Rep] at r1'; obtain ⟨t, _, e, _⟩ := r1'; exact ⟨t, e⟩
  obtain ⟨t, rfl⟩ := hx
  cases rx
  obtain ⟨xs, h3, r3⟩ := o2 p _ hG
  obtain ⟨z1, z2, dd⟩ := dict_of I2 h3 (r3.same hid_le)
  refine wpAny_in_heap (knd := datKind X.prog X.w) (show X.A.units + 1 + 6 < cLine by omega) (key_at I2 hk r1') z1 dd ⟨.bl _, H2, I2.tok _, rfl, .bl _, _, e1.trans e2, o2, ?_, rfl, rfl⟩
  rw [← (DRep.look _ r3).1]
  rfl
end
end TF
set_option Elab.async false
set_option linter.all false
set_option maxRecDepth 100000
set_option maxHeartbeats 2000000
/-! More rules: + of any two tuples, slices, sum, d[k], d[k] = v, {}, len(d), x = [..for..] -/
namespace TF
open PySem PySem.Spec L2
open PyProof.Rows hiding St RelV
section
variable {X : Cx}
/-- t + u -/
def rCatA (K : PySem.W.Frag) : R2 := fun x y H Q => ∃ a b xs ys, x = .ref a ∧ y = .ref b ∧ SqT K H a xs ∧ SqT K H b ys ∧ xs.length + ys.length ≤ sizeLine ∧
  (xs = [] → Q (.ref b) H) ∧ (ys = [] → Q (.ref a) H) ∧ ∀ p, H p = none → Q (.ref p) (upd H p (.tup (xs ++ ys)))
theorem op_catA : OpR X (binaryOp .Add) (rCatA X.K) := by
  intro pins s σ H x y v u Q I rx ry h
  obtain ⟨a, b, xs, ys, rfl, rfl, ha, hb, hz, q0, q1, q2⟩ := h
  by_cases hx : xs = []
  · cases rx
    cases ry
    obtain ⟨its, r1, p1, _⟩ := I.tuple ha
    obtain ⟨its2, r2, p2, _⟩ := I.tuple hb
    obtain ⟨⟨cls, dd, data, sl⟩, ho, hc, n, hd⟩ := id p1
    obtain ⟨⟨cls2, dd2, data2, sl2⟩, ho2, hc2, n2, hd2⟩ := id p2
    simp only at hc hd hc2 hd2
    subst hc hd hc2 hd2
    exact concat_meets ⟨_, ho, rfl⟩ ⟨_, ho2, rfl⟩ noFill_tuple_add seq_tuple_add PySem.F.slot_tuple_add PySem.F.entry_tuple_add (PySem.F.args_tuple_add_2 _ _)
      (tuple_addW0 a b its.toArray its2.toArray n n2 dd dd2 sl sl2 (by rw [r1.nil_iff.mpr hx]; rfl)) ⟨ho, ho2, .ref b, H, I, rfl, q0 hx⟩
  · exact op_catT pins s σ H (.ref a) (.ref b) v u Q I rx ry ⟨a, b, xs, ys, rfl, rfl, ha, hb, hx, hz, q1, fun _ => q2⟩
/-- t[lo:hi] -/
def rSlA (K : PySem.W.Frag) : V → Option Int → Option Int → Hp → VK → Prop := fun x lo hi H Q => ∃ a xs, x = .ref a ∧ SqT K H a xs ∧ (cutV xs lo hi = xs → Q (.ref a) H) ∧ ∀ p, H p = none → Q (.ref p) (upd H p (.tup (cutV xs lo hi)))
theorem sl_tupA : SlR X (rSlA X.K) := by
  intro pins s σ H x v vl vu lo hi sl Q I rx hs pl pu h
  obtain ⟨a, xs, rfl, hx, q1, q2⟩ := h
  by_cases hw : HT.sIx xs.length 0 lo = 0 ∧ HT.sIx xs.length xs.length hi = xs.length
  · cases rx
    obtain ⟨its, r, ht, hz⟩ := I.tuple hx
    have hlen : its.toArray.size = xs.length := by rw [List.size_toArray]; exact r.length.symm
    have cut : cutV xs lo hi = xs := by unfold cutV; rw [hw.1, hw.2]; simp
    refine ⟨"tuple", _, PyProof.Rows.slot_tuple_getitem.lookup, ht.typeIs, ?_⟩
    obtain ⟨os, hos, hcs, hds⟩ := id hs
    have hTs : s.TypeIs (.ref sl) "slice" := ⟨os, hos, hcs⟩
    unfold getItem
    try with_reducible refine wpAny_holding ?_
    first | refine wpAny_bind (wpAny_pure ?_) | skip
    refine wpAny_bind (wpAny_sequenceKey ht.typeIs (by decide) ?_)
    refine wpAny_bind (wpAny_callSpecial?_slot (name := Str.ofString "__getitem__") ht.typeIs PyProof.Rows.slot_tuple_getitem
      (wpAny_call_entry PyProof.Rows.slot_tuple_getitem ht.typeIs entry_tuple_getitem ?_ (args_tuple_getitem _ _)))
    show wpAny _ _ (Builtin.Tuple.tupleItemsOf (.ref a) >>= _) _ _ s
    refine wpAny_bind (tupleItemsOf_ ht ?_)
    refine wpAny_bind (wpAny_typeOf hTs ?_)
    rw [if_pos (by decide)]
    refine wpAny_bind (HT.sliceApplied_gen hs pl pu ?_)
    have hyes : (((HT.sIx its.toArray.size 0 lo : Nat) : Int) == 0 && (1 : Int) == 1 && (HT.sIx its.toArray.size its.toArray.size hi - HT.sIx its.toArray.size 0 lo) == its.toArray.size) = true := by
      rw [hlen, hw.1, hw.2]
      simp
    show wpAny _ _ (if (((HT.sIx its.toArray.size 0 lo : Nat) : Int) == 0 && (1 : Int) == 1 && (HT.sIx its.toArray.size its.toArray.size hi - HT.sIx its.toArray.size 0 lo) == its.toArray.size) = true then _ else _) _ _ s
    rw [if_pos hyes]
    refine wpAny_bind ?_
    unfold Builtin.Tuple.tupleIsExact
    refine wpAny_bind (wpAny_typeOf ht.typeIs (wpAny_pure ?_))
    rw [if_pos (by decide)]
    exact wpAny_bind (wpAny_rule (wpAny_pure ⟨_, rfl, wpAny_pure ⟨.ref a, H, I, rfl, q1 cut⟩⟩))
  · exact sl_tup pins s σ H (.ref a) v vl vu lo hi sl Q I rx hs pl pu ⟨a, xs, rfl, hx, hw, q2⟩
end
end TF
set_option Elab.async false
set_option linter.all false
set_option maxRecDepth 100000
set_option maxHeartbeats 2000000
namespace TF
open PySem PySem.Spec L2
open PyProof.Rows hiding St RelV
theorem putD_length (kvs : List (Dat × Dat)) (k v : Dat) : (putD kvs k v).length ≤ kvs.length + 1 := by
  unfold putD
  split
  · rw [List.length_map]; omega
  · rw [List.length_append, List.length_singleton]; exact Nat.le_refl _
section
variable {X : Cx} {ρ : Rho} {G : Gs} {e a b c : Expr} {es : List Expr} {d d' d1 d2 k : Dat} {ds l m : List Dat} {pos : Pos} {i j : Int} {p : Addr} {kvs : List (Dat × Dat)} {D : DE} {rest : List Stmt}
theorem px_catA (ha : PX X ρ G a (.tup l)) (hb : PX X ρ G b (.tup m)) (hz : l.length + m.length ≤ sizeLine) : PX X ρ G (.BinOp a .Add b pos) (.tup (l ++ m)) :=
  px_op op_catA ha hb fun H x y Q o hx hy k => by
    have hx' := hx
    have hy' := hy
    rw [Rep] at hx hy
    obtain ⟨p, vs, e1, h1, r1⟩ := hx
    obtain ⟨q, us, e2, h2, r2⟩ := hy
    refine ⟨p, q, vs, us, e1, e2, sqT_same hid_le h1, sqT_same hid_le h2, by rw [r1.length, r2.length]; exact hz, fun z => ?_, fun z => ?_, fun t ht => k _ _ (new_tup o ht (r1.append r2))⟩
    · have hl : l = [] := by have := r1.length; rw [z] at this; cases l <;> simp_all
      subst hl
      rw [← e2]
      exact k _ _ (po1' o (by rw [List.nil_append]; exact hy'))
    · have hm : m = [] := by have := r2.length; rw [z] at this; cases m <;> simp_all
      subst hm
      rw [← e1]
      exact k _ _ (po1' o (by rw [List.append_nil]; exact hx'))
/-! ### slices -/
def PXo (X : Cx) (ρ : Rho) (G : Gs) (e : Option Expr) (o : Option Int) : Prop := match e, o with
  | none, none => True
  | some e, some i => PX X ρ G e (.int i)
  | _, _ => False
def cutD (l : List Dat) (lo hi : Option Int) : List Dat := (l.drop (HT.sIx l.length 0 lo)).take (HT.sIx l.length l.length hi - HT.sIx l.length 0 lo)
def tWo (X : Cx) (e : Option Expr) : TO := fun σ H Q' => ∃ ρ G o, PXo X ρ G e o ∧ Stt X H σ ρ G ∧ ∀ H', Ext H G H' G → GOk X.K H' G → Q' o H'
theorem po_wo {e : Option Expr} : PO X e (tWo X e) := by
  intro pins s σ H Q I ⟨ρ, G, o, h, S, k⟩
  cases e with
  | none =>
    cases o with
    | none => exact po_none pins s σ H Q I (k H Ext.refl S.own)
    | some i => exact h.elim
  | some e =>
    cases o with
    | none => exact h.elim
    | some i =>
      refine po_some (pe_we (X := X) (e := e)) pins s σ H Q I ⟨ρ, G, _, h, S, fun v H' ⟨d, G', e', o', r', q1, q2⟩ => ?_⟩
      subst q1; subst q2
      exact ⟨i, r', k H' e' o'⟩
theorem cut_rep {K : PySem.W.Frag} {H : Hp} {vs : List V} {lo hi : Option Int} (r : RepL K H l vs) : RepL K H (cutD l lo hi) (cutV vs lo hi) := by
  unfold cutD cutV
  rw [r.length]
  exact (r.drop _).take _
theorem px_sliceT {lo hi : Option Expr} {p2 : Pos} {ol oh : Option Int} (ha : PX X ρ G a (.tup l)) (hl : PXo X ρ G lo ol) (hh : PXo X ρ G hi oh) : PX X ρ G (.Subscript a (.Slice lo hi none p2) pos) (.tup (cutD l ol oh)) :=
  we_pe (pe_slice sl_tupA pe_we po_wo po_wo) fun σ H S => ⟨ρ, G, _, ha, S, fun x H1 ⟨_, _, e1, o1, r1, q1, q1'⟩ => by
    subst q1; subst q1'
    refine ⟨ρ, _, ol, hl, S.ext e1 o1, fun H2 e2 o2 => ⟨ρ, _, oh, hh, S.ext (e1.trans e2) o2, fun H3 e3 o3 => ?_⟩⟩
    have r3 := r1.same (e2.trans e3).hid
    have r3' := r3
    rw [Rep] at r3
    obtain ⟨p, vs, e4, h4, r4⟩ := r3
    refine ⟨p, vs, e4, sqT_same hid_le h4, fun z => ?_, fun t ht => Po.trans (e1.trans (e2.trans e3)) (new_tup o3 ht (cut_rep r4))⟩
    refine Po.trans (e1.trans (e2.trans e3)) (po1' o3 ?_)
    rw [Rep]
    exact ⟨p, vs, rfl, h4, by have := cut_rep (lo := ol) (hi := oh) r4; rw [z] at this; exact this⟩⟩
/-! ### sum -/
theorem call_sumL (hc : X.calm = true) : CallR X (.builtin "sum") (fun xs H Q => ∃ (p : Addr) (ns : List Int), xs = [.ref p] ∧ SqL X.K H p (ns.map V.int) ∧ Q (.int ns.sum) H) := by
  intro pins s σ H xs us Q I r h
  obtain ⟨p, ns, rfl, hq, q⟩ := h
  obtain ⟨u, rfl, rx⟩ := vals1 r
  cases rx
  obtain ⟨its, r', pl, hz⟩ := I.list hq
  have hi : IntsAre its ns := intsAre_of r'
  obtain ⟨xs, hx⟩ := hi.allInts.items
  have hl := pl.isList
  rw [hx] at hl
  refine PySem.sum_intListG (I.ok.hd hc) hl fun h' tk t' hk => ⟨.int ns.sum, H, I.kept hk, ⟨t', ?_⟩, q⟩
  have e : ns = xs.toList.map (·.1) := by
    rw [← hi.numsOf, ← nums_intItems, ← hx]
  rw [preSum_eq, List.take_of_length_le (by simp), ← e]
theorem px_sum {ns : List Int} {pp : Pos} (hc : X.calm = true) (hm : X.mg "sum" = none) (ha : PX X ρ G a (.lst (ns.map .int))) (hg : Gl X "sum" := by rfl) (he : starEach [a] X.env = (false, eval a X.env) :: starEach [] X.env := by rfl) : PX X ρ G (.Call (.Name "sum" pp) [a] [] pos) (.int ns.sum) :=
  px_call1 (call_sumL hc) hg hm boot_sum ha (fun H x Q o r k => by
    rw [Rep] at r
    obtain ⟨q, vs, e, h1, r1⟩ := r
    exact ⟨q, ns, by rw [e], by rw [← r1.ints]; exact SqL.of (hid_le _ _ h1), k _ _ (po1' o rfl)⟩) (he := he)
/-! ### arguments that change something -/
theorem wa_nil {Q : List Dat → Gs → Prop} (h : Q [] G) : WA X ρ G [] Q := wa_pa pa_nil fun σ H S => ⟨[], G, Ext.refl, S.own, RepL.nil, h⟩
theorem wa_cons {Q : List Dat → Gs → Prop} (h : WE X ρ G e fun d G1 => WA X ρ G1 es fun ds G2 => Q (d :: ds) G2) (hs : starEach (e :: es) X.env = (false, eval e X.env) :: starEach es X.env := by rfl) : WA X ρ G (e :: es) Q :=
  wa_pa (pa_cons pe_we pa_wa hs) fun σ H S => ⟨ρ, G, _, h, S, fun x H1 ⟨d, G1, e1, o1, r1, w1⟩ => ⟨ρ, G1, _, w1, S.ext e1 o1, fun xs H2 ⟨ds, G2, e2, o2, r2, q2⟩ => ⟨d :: ds, G2, e1.trans e2, o2, RepL.cons (r1.same e2.hid) r2, q2⟩⟩⟩
theorem PXs.wa {Q : List Dat → Gs → Prop} (h : PXs X ρ G es ds) (q : Q ds G) : WA X ρ G es Q := fun pos pins s σ H I S => thn (h pos pins s σ H I S) fun _ _ z => AP.mono z fun _ _ ⟨_, _, e, o, r, q1, q2⟩ => by
  subst q1; subst q2; exact ⟨_, _, e, o, r, q⟩
theorem we_dfA {S : SpD} {kk : Nat} {ps : List Str} {x : Str} {pp : Pos} {Q : Dat → Gs → Prop} (F : Df X.prog X.w X.K X.mg X.base x ps kk S) (hr : Room kk X.A) (ha : WA X ρ G (e :: es) fun ds G' => S ds G' Q) (hg : Gl X x := by rfl)
    (hdb : (x == ("__debug__" : Str)) = false := by decide) (he : starEach (e :: es) X.env = (false, eval e X.env) :: starEach es X.env := by rfl) (hpl : (backTo pos (starEach es X.env)).any (·.1) = false := by rfl) : WE X ρ G (.Call (.Name x pp) (e :: es) [] pos) Q := by
  obtain ⟨f, fd, F, hm, hk, hb⟩ := F.ex
  exact we_pe (pe_call F hr hg hm hk hb .nil pass0 pa_wa hdb he hpl) fun σ H St => ⟨ρ, G, _, ha, St, fun vs H1 ⟨ds, G1, e1, o1, r1, q1⟩ => ⟨ds, G1, Q, o1, by rw [List.append_nil]; exact r1, q1, fun v H' d G' e' o' r' q' => ⟨d, G', e1.trans e', o', r', q'⟩⟩⟩
/-! ### dicts -/
/-- {} -/
theorem we_dnew {Q : Dat → Gs → Prop} (h : ∀ p, G p = none → Q (.fn p) (put G p (.dct []))) : WE X ρ G (.Dict [] [] pos) Q := fun pins s σ H I S => by
  refine wpAny_Dict_empty ⟨.ref s.heap.objs.size, _, I.laid (a := s.heap.objs.size) (o := dctO s.heap.objs.size []) (t' := s.toks) (fun _ _ q => Heap.get?_push_of_some _ q) (Nat.le_refl _) ?_, rfl, ?_⟩
  · refine dct_ok ⟨beq_eq_false_iff_ne.mpr (Ne.symm (Nat.ne_of_lt (Inv.big I))), Nat.zero_le _, List.nodup_nil, _, #[], 0, Heap.get?_push_size _ rfl, ⟨rfl, rfl, rfl⟩, rfl, rfl⟩
  · have hp : H s.heap.objs.size = none := I.hok.fresh (Nat.le_refl _)
    obtain ⟨E, O⟩ := own_dctN (X := X) S.own hp
    exact ⟨.fn s.heap.objs.size, _, E, O, rfl, h _ (S.own.free hp)⟩
/-- d[k] -/
theorem px_dget (hu : X.A.units + 9 < cLine) (ha : PX X ρ G a (.fn p)) (hb : PX X ρ G b k) (hG : G p = some (.dct kvs)) (hk : keyD 6 k = true) (hr : ∃ l, k = .tup l) (hl : lookD kvs k = some d) (hs : PlainIx b := by intro _ _; rfl) : PX X ρ G (.Subscript a b pos) d := by
  intro pins s σ H I S
  refine Subscript_ (thn (ha pins s σ H I S) fun u s1 ⟨x, H1, I1, rx, _, _, e1, o1, r1, q1, q1'⟩ => ?_)
  subst q1; subst q1'
  refine thn (hb pins s1 σ H1 I1 (S.ext e1 o1)) fun iv s2 ⟨y, H2, I2, ry, _, _, e2, o2, r2, q2, q2'⟩ => ?_
  subst q2; subst q2'
  cases (show x = V.ref p from r1)
  cases rx
  obtain ⟨l, rfl⟩ := hr
  have r2' := r2.same hid_le
  have hx : ∃ t, y = V.ref t := by rw [Rep] at r2'; obtain ⟨t, _, e, _⟩ := r2'; exact ⟨t, e⟩
  obtain ⟨t, rfl⟩ := hx
  cases ry
  obtain ⟨xs, h3, r3⟩ := o2 p _ hG
  obtain ⟨z1, z2, dd⟩ := dict_of I2 h3 (r3.same hid_le)
  obtain ⟨q, v, hq, rv, rd⟩ := (DRep.look _ r3).2 d hl
  refine tail_any (ops := [.ref p, .ref t]) dd.typeIs PySem.F.slot_dict_getitem.lookup ?_ (hs _ _)
  exact wpAny_getItem_heap (knd := datKind X.prog X.w) (show X.A.units + 1 + 6 < cLine by omega) (key_at I2 hk r2') dd hq ⟨v, H2, I2.tok _, rv, d, _, e1.trans e2, o2, rd, rfl, rfl⟩
/-- d[k] = v -/
theorem wss_dput {pos' : Pos} (hu : X.A.units + 9 < cLine) (hv : PX X ρ G e d) (ha : PX X ρ G a (.fn p)) (hb : PX X ρ G b k) (hG : G p = some (.dct kvs)) (hk : keyD 6 k = true) (hr : ∃ l, k = .tup l) (hz : kvs.length < sizeLine)
    (q : WSs X ρ (put G p (.dct (putD kvs k d))) rest D) (hs : swapsWith e (some (.Subscript a b pos')) pos.line X.env = pure false := by rfl) : WSs X ρ G (.Assign [.Subscript a b pos'] e pos :: rest) D := wss_cons fun pins s σ H I S => by
  refine wpAny_Assign_Subscript (thn (hv pins s σ H I S) fun r s0 ⟨vv, H0, I0, rvv, _, _, e0, o0, r0, q0, q0'⟩ => ?_) hs
  subst q0; subst q0'
  refine thn (ha pins s0 σ H0 I0 (S.ext e0 o0)) fun u s1 ⟨x, H1, I1, rx, _, _, e1, o1, r1, q1, q1'⟩ => ?_
  subst q1; subst q1'
  refine thn (hb pins s1 σ H1 I1 (S.ext (e0.trans e1) o1)) fun iv s2 ⟨y, H2, I2, ry, _, _, e2, o2, r2, q2, q2'⟩ => ?_
  subst q2; subst q2'
  cases (show x = V.ref p from r1)
  cases rx
  obtain ⟨l, rfl⟩ := hr
  have r2' := r2.same hid_le
  have hx : ∃ t, y = V.ref t := by rw [Rep] at r2'; obtain ⟨t, _, e, _⟩ := r2'; exact ⟨t, e⟩
  obtain ⟨t, rfl⟩ := hx
  cases ry
  obtain ⟨xs, h3, r3⟩ := o2 p _ hG
  obtain ⟨z1, z2, dd⟩ := dict_of I2 h3 (r3.same hid_le)
  have rn := DRep.put hk r2 rvv (r0.same (e1.trans e2).hid) r3
  refine wpAny_setItem_heap (hsz := z2) (knd := datKind X.prog X.w) (show X.A.units + 1 + 6 < cLine by omega) (key_at I2 hk r2') dd fun h' dd' hsb => ?_
  obtain ⟨E, O⟩ := own_dct (X := X) o2 hG rn
  obtain ⟨o', es', ep', g1, g2, g3, g4, _, g5⟩ := dd'
  refine ⟨σ, _, I2.write (x := p) (e := p) (t' := s2.toks + drawD (.tup l)) (by rw [h3]; exact True.intro) (.inl rfl) (fun b o hb z => (hsb.2 b hb).trans z) ⟨o', g1⟩ (dct_ok ⟨z1, ?_, g5, o', es', ep', g1, g2, g3, g4⟩), ρ, _, (e0.trans (e1.trans e2)).trans E, S.ext ((e0.trans (e1.trans e2)).trans E) O, q⟩
  exact Nat.le_trans (Nat.le_of_eq rn.length) (Nat.le_trans (putD_length _ _ _) hz)
end
/-! ### x = [.. for ..] where the machine stores the list before it lets the block go -/
section
variable {X : Cx} {ρ : Rho} {G : Gs} {elt target iter : Expr} {ifs : List Expr} {scope : Scope} {cpos pos pos' : Pos} {tail : Env → Value → Sem Unit} {Nc : List Str} {caps : List (Option Nat)} {l : List Dat} {f : Dat → Rho → Option Rho} {D : DE} {rest : List Stmt}
theorem wss_setComp (n : Nat) {x : Str} (Pv : Nat → List Dat → Gs → Prop) (hN : X.N.Nodup) (ht : TurnIs elt target iter ifs scope cpos tail) (Sc : CompSc X scope Nc caps) (hcalm : X.calm = true) (hi : WI X ρ G target iter fun l' G' => l' = l ∧ Pv 0 [] G')
    (hg : ∀ C s' H' fp, PGD (compCx X Nc scope C s' H' fp) target f) (hle : ∀ d ρ', f d (pick caps ρ) = some ρ' → ρ'.length = (pick caps ρ).length ∧ ∀ (j : Nat) e, (pick caps ρ)[j]? = some (some e) → ρ'[j]? = some (some e)) (hz : l.length ≤ sizeLine)
    (hstep : ∀ C s' H' fp D i d acc G', l[i]? = some d → Pv i acc G' → G' D = none → ∃ ρ', f d (pick caps ρ) = some ρ' ∧
      WTail (compCx X Nc scope C s' H' fp) ρ' (put G' D (.lst acc)) (tail (compCx X Nc scope C s' H' fp).env (.ref D)) fun G'' => ∃ acc' G4, acc'.length ≤ acc.length + 1 ∧ G4 D = none ∧ G'' = put G4 D (.lst acc') ∧ Pv (i + 1) acc' G4)
    (hd : ∀ acc G', Pv l.length acc G' → WSs X (ρ.set n (some (.lst acc))) G' rest D) (hn : X.N[n]? = some x := by rfl) (hx : X.env.kindOf x = some .local := by rfl) (hsw : swapsWith (.ListComp elt [⟨target, iter, ifs, 0⟩] scope cpos) (some (.Name x pos')) pos.line X.env = pure true := by rfl)
    (hfs : ∀ x, foldedSetIterable iter X.env x = pure x := by intro _; rfl) : WSs X ρ G (.Assign [.Name x pos'] (.ListComp elt [⟨target, iter, ifs, 0⟩] scope cpos) pos :: rest) D := wss_cons fun pins s σ H I S => by
  rw [exec_Assign_Name_used _ _ _ _ hsw]
  refine wpAny_bind (wpAny_standAt (wpAny_bind ?_))
  show wpAny _ X.A (do let _ ← comprehension (.ListComp elt [⟨target, iter, ifs, 0⟩] scope cpos) scope X.env _ (newList []) false (eval iter X.env) (some (assign (.Name x pos') X.env))) _ _ s
  refine wpAny_bind (wpAny_mono (wpAny_comprehension_free (use := some (assign (.Name x pos') X.env)) (Q := fun _ s' => SP X pins (lift X H G { D with nx := fun ρ' G' => WSs X ρ' G' rest D }) .next s') rfl hfs (closureFor_ok fun x hx hf => I.ok.has x.1 (Sc.free x hx hf)) Sc.kind Sc.names
    (thn (hi pins s σ H I S) fun v s1 h1 => thn h1 fun itv s2 h2 => ?_)) (fun _ s' hq => wpAny_pure (wpAny_pure hq)) fun _ _ e => e)
  obtain ⟨it, fp, tn, J, H2, e, I2, T, st2, f2, l', G2, e2, o2, wk, q, p0⟩ := h2
  subst e; subst q
  refine comp_core (RR := fun acc C => compPost (model X.prog X.w) X.A X.xe (some (assign (.Name x pos') X.env)) (fun _ s' => SP X pins (lift X H G { D with nx := fun ρ' G' => WSs X ρ' G' rest D }) .next s') acc C) Pv ht Sc hcalm hg hle hz hstep I2 (S.ext e2 o2) T st2 f2 wk p0 ?_
  rintro Dd C s3 sf σc Hf Gf acc k3 rfl ⟨H3, I3, f3, Ic⟩ ef of hGf pf
  obtain ⟨m, hm, _⟩ := Ic.loc
  have hch : ∀ b ∈ fp, (b ∈ X.ex ∨ X.s₀.heap.objs.size ≤ b) ∧ b ≠ X.env.locals ∧ (∀ x c, X.env.cells.lookup x = some c → c ≠ b) ∧ ∀ p ∈ X.pn ++ pins, p.1 ≠ b := fun b hb =>
    ⟨(f3 b hb).2.2.2.1, (f3 b hb).2.1, (f3 b hb).2.2.2.2.1, (f3 b hb).2.2.2.2.2⟩
  have I1 : Inv X pins σ Hf sf := I3.call' Ic.os Ic.base Ic.hok Ic.bare hch
  have hC : Hf s3.heap.objs.size = none := Ic.free
  have cellC : ∀ x c, X.env.cells.lookup x = some c → c ≠ s3.heap.objs.size := fun x c e z => by
    obtain ⟨v, o, ho, _⟩ := I3.cell x c e
    rw [z] at ho
    exact absurd (Heap.lt_size ho) (Nat.lt_irrefl _)
  obtain ⟨E, O, R⟩ := own_rel (X := X) of put_same
  rw [rel_put hGf] at E O R
  show wpAny (model X.prog X.w) X.A (assign (.Name x pos') X.env (.ref Dd)) _ _ sf
  refine wpAny_assign_Name (store_ok2 I1 hN hn (.inl hx) (v := .ref Dd) (show RelV (V.ref Dd) (Value.ref Dd) from rfl) (fun s'' I'' hsb => ?_) (.inr hx))
  obtain ⟨a, sb, ha⟩ := hsb
  have hne : s3.heap.objs.size ≠ a := by
    rcases ha with z | z
    · rw [z]; exact Nat.ne_of_gt I3.lt
    · exact Ne.symm (cellC _ _ z)
  refine ⟨m, Heap.Ns.sameBut (show sf.heap.Ns s3.heap.objs.size m from hm) sb hne, fun h' hs => ?_⟩
  have If : Inv X pins (σ.set n (some (.ref Dd))) Hf { s'' with heap := h' } := by
    refine I''.turned (t' := s''.toks) (it := s3.heap.objs.size) (fun b o hb e => hs.extBut b o hb e) hC (Nat.ne_of_gt I3.lt) (.inr I3.sz) cellC fun p hp z => ?_
    have := (I3.pin p hp).1
    rw [z] at this
    exact absurd (Heap.lt_size this) (Nat.lt_irrefl _)
  exact ⟨_, Hf, If, _, Gf, e2.trans (ef.trans E), (S.ext (e2.trans (ef.trans E)) O).set R, hd acc Gf pf⟩
end
end TF
set_option Elab.async false
set_option linter.all false
set_option maxRecDepth 100000
set_option maxHeartbeats 4000000
/-! Squares, floors, stones as data -/
namespace TF
open PySem PySem.Spec L2
open PyProof.Rows hiding St RelV
abbrev Sq := Int × Int
def sq (p : Sq) : Dat := .tup [.int p.1, .int p.2]
def fl (l : List Sq) : Dat := .tup (l.map sq)
def stone (p : Sq × Sq) : Dat := .tup [sq p.1, sq p.2]
theorem eqD_sq (p q : Sq) : eqD (sq p) (sq q) = decide (p = q) := by
  obtain ⟨a, b⟩ := p
  obtain ⟨c, d⟩ := q
  simp only [sq, eqD, eqL, Bool.and_true]
  rw [Bool.eq_iff_iff]
  simp [Prod.ext_iff]
theorem any_sq (l : List Sq) (p : Sq) : ((l.map sq).any fun e => eqD e (sq p)) = l.contains p := by
  rw [List.any_map]
  have : (fun e => eqD e (sq p)) ∘ sq = fun q => q == p := by
    funext q
    simp only [Function.comp, eqD_sq]
    rw [Bool.eq_iff_iff]; simp
  rw [this]
  induction l with
  | nil => rfl
  | cons q l ih =>
    rw [List.any_cons, List.contains_cons, ih]
    congr 1
    rw [Bool.eq_iff_iff, beq_iff_eq, beq_iff_eq]
    exact eq_comm
theorem plain_sq (p : Sq) (n : Nat) : plainD (n + 1) (sq p) = true := by
  simp only [sq, plainD, List.all_cons, List.all_nil, Bool.and_true, Bool.and_eq_true]
  exact ⟨plainD_flat rfl n, plainD_flat rfl n⟩
theorem plain_sqs (l : List Sq) (n : Nat) : (l.map sq).all (plainD (n + 1)) = true := by
  rw [List.all_eq_true]
  intro d hd
  obtain ⟨p, _, rfl⟩ := List.mem_map.mp hd
  exact plain_sq p n
theorem sq_inj {p q : Sq} (h : sq p = sq q) : p = q := by
  obtain ⟨a, b⟩ := p
  obtain ⟨c, d⟩ := q
  simp only [sq, Dat.tup.injEq, List.cons.injEq, Dat.int.injEq, and_true] at h
  rw [h.1, h.2]
theorem map_sq_inj : ∀ {l m : List Sq}, l.map sq = m.map sq → l = m
  | [], [], _ => rfl
  | [], _ :: _, h => by simp at h
  | _ :: _, [], h => by simp at h
  | p :: l, q :: m, h => by
    simp only [List.map_cons, List.cons.injEq] at h
    rw [sq_inj h.1, map_sq_inj h.2]
theorem fl_inj {l m : List Sq} (h : fl l = fl m) : l = m := by
  simp only [fl, Dat.tup.injEq] at h
  exact map_sq_inj h
theorem atI_map {α β : Type} (f : α → β) {l : List α} {i : Int} {x : α} (h : atI l i = some x) : atI (l.map f) i = some (f x) := by
  unfold atI at h ⊢
  rw [List.length_map]
  cases q : ixN l.length i with
  | none => rw [q] at h; cases h
  | some j => rw [q] at h; show (l.map f)[j]? = _; rw [List.getElem?_map, show l[j]? = some x from h]; rfl
/-- the script's cell -/
def cellN (ns : List Int) (k : Nat) : Int := ns.getD k 0
end TF
set_option Elab.async false
set_option linter.all false
set_option maxRecDepth 100000
set_option maxHeartbeats 4000000
namespace TF
open PySem PySem.Spec L2
open PyProof.Rows hiding St RelV
section
variable {X : Cx} {ρ : Rho} {G : Gs} {e a b c : Expr} {es : List Expr} {d : Dat} {pos : Pos} {D : DE} {rest x y : List Stmt} {p : Bool}
/-- an if behind which both ways meet -/
theorem wss_ifM (M : Rho → Gs → Prop) (hc : PXT X ρ G c p) (ht : p = true → WSs X ρ G x { D with nx := M }) (hf : p = false → WSs X ρ G y { D with nx := M }) (hr : ∀ ρ' G', M ρ' G' → WSs X ρ' G' rest D) : WSs X ρ G (.If c x y pos :: rest) D :=
  wss_if hc (fun h => (ht h).mono (fun ρ' G' q => hr ρ' G' q) (fun _ _ q => q) (fun _ _ q => q) fun _ _ q => q) (fun h => (hf h).mono (fun ρ' G' q => hr ρ' G' q) (fun _ _ q => q) (fun _ _ q => q) fun _ _ q => q)
theorem wss_ifK (M : Gs → Prop) (hc : PXT X ρ G c p) (ht : p = true → WSs X ρ G x { D with nx := fun ρ' G' => ρ' = ρ ∧ M G' }) (hf : p = false → WSs X ρ G y { D with nx := fun ρ' G' => ρ' = ρ ∧ M G' }) (hr : ∀ G', M G' → WSs X ρ G' rest D) : WSs X ρ G (.If c x y pos :: rest) D :=
  wss_ifM (fun ρ' G' => ρ' = ρ ∧ M G') hc ht hf fun ρ' G' ⟨h1, h2⟩ => by subst h1; exact hr G' h2
/-- what was made on the way is let go -/
theorem we_rel {Q : Dat → Gs → Prop} (h : WE X ρ G e fun d G' => ∃ q, Q d (rel G' q)) : WE X ρ G e Q := fun pins s σ H I S =>
  thn (h pins s σ H I S) fun _ _ z => EP.mono z fun v H' ⟨d, G', e', o', r', q, hq⟩ => by
    have E : Ext H' G' H' (rel G' q) := ⟨fun b u z _ => z, fun b hb => by
      by_cases hq : b = q
      · subst hq; rw [rel_same] at hb; exact absurd rfl hb
      · rw [rel_ne hq] at hb; exact .inl hb⟩
    refine ⟨d, rel G' q, e'.trans E, fun b u z => ?_, r'.same E.hid, hq⟩
    by_cases hbq : b = q
    · subst hbq; rw [rel_same] at z; cases z
    · rw [rel_ne hbq] at z
      exact (o' b u z).ext E.hid rfl
/-- a comprehension that changes nothing -/
theorem px_comp {elt target iter : Expr} {scope : Scope} {cpos : Pos} {Nc : List Str} {caps : List (Option Nat)} {l : List Dat} {f : Dat → Rho → Option Rho} (g : Dat → Dat) (Sc : CompSc X scope Nc caps) (hcalm : X.calm = true) (hi : WI X ρ G target iter fun l' G' => l' = l ∧ G' = G)
    (hg : ∀ C s' H' fp, PGD (compCx X Nc scope C s' H' fp) target f) (hle : ∀ d ρ', f d (pick caps ρ) = some ρ' → ρ'.length = (pick caps ρ).length ∧ ∀ (j : Nat) e, (pick caps ρ)[j]? = some (some e) → ρ'[j]? = some (some e)) (hz : l.length ≤ 5000)
    (hstep : ∀ C s' H' fp G' d, d ∈ l → ∃ ρ', f d (pick caps ρ) = some ρ' ∧ PX (compCx X Nc scope C s' H' fp) ρ' G' elt (g d)) (hfs : ∀ x, foldedSetIterable iter X.env x = pure x := by intro _; rfl) :
    PX X ρ G (.ListComp elt [⟨target, iter, [], 0⟩] scope cpos) (.lst (l.map g)) := by
  refine we_comp (Pv := fun i acc G' => G' = G ∧ acc = (l.take i).map g) (turnIs_0 elt target iter scope cpos) Sc hcalm (fun pins s σ H I S => thn (hi pins s σ H I S) fun v s1 h1 => thn h1 fun itv s2 ⟨it, fp, tn, J, H', e, I', T, st, fk, l', G', e', o', wk, q1, q2⟩ => ⟨it, fp, tn, J, H', e, I', T, st, fk, l', G', e', o', wk, q1, q2, by simp⟩) hg hle (Nat.le_trans hz (by decide)) ?_ ?_ hfs
  · rintro C s' H' fp Dd i d acc G' hd ⟨rfl, rfl⟩ hD
    obtain ⟨ρ', h1, h2⟩ := hstep C s' H' fp (put G' Dd (.lst ((l.take i).map g))) d (List.mem_of_getElem? hd)
    refine ⟨ρ', h1, wtail_emit rfl put_same ?_ (PX.we h2 ⟨put_same, _, G', ?_, hD, put_put, rfl, ?_⟩)⟩
    · have : ((l.take i).map g).length ≤ l.length := by rw [List.length_map, List.length_take]; omega
      exact Nat.lt_of_le_of_lt (Nat.le_trans this hz) (by decide)
    · simp
    · have hlt := (List.getElem?_eq_some_iff.mp hd).1
      rw [List.take_add_one, hd]
      simp
  · rintro acc G' ⟨rfl, rfl⟩
    rw [List.take_length]
    exact ⟨rfl, rfl⟩
theorem bName_le {ρ : Rho} {i : Nat} (h : ρ[i]? = some none) : ∀ d ρ', bName i d ρ = some ρ' → ρ'.length = ρ.length ∧ ∀ (j : Nat) e, ρ[j]? = some (some e) → ρ'[j]? = some (some e) := by
  intro d ρ' e
  cases e
  refine ⟨List.length_set, fun j e' h' => ?_⟩
  by_cases z : i = j
  · subst z; rw [h] at h'; cases h'
  · rw [List.getElem?_set_ne z]; exact h'
theorem bPair_le {ρ : Rho} {i j : Nat} (h : ρ[i]? = some none) (h' : ρ[j]? = some none) : ∀ d ρ', bPair i j d ρ = some ρ' → ρ'.length = ρ.length ∧ ∀ (k : Nat) e, ρ[k]? = some (some e) → ρ'[k]? = some (some e) := by
  intro d ρ' e
  cases d <;> simp only [bPair, reduceCtorEq] at e
  rename_i l
  match l, e with
  | [a, b], e =>
    simp only [Option.some.injEq] at e
    subst e
    refine ⟨by rw [List.length_set, List.length_set], fun k e' hk => ?_⟩
    by_cases z : j = k
    · subst z; rw [h'] at hk; cases hk
    · rw [List.getElem?_set_ne z]
      by_cases z2 : i = k
      · subst z2; rw [h] at hk; cases hk
      · rw [List.getElem?_set_ne z2]; exact hk
  | [], e => simp at e
  | [_], e => simp at e
  | _ :: _ :: _ :: _, e => simp at e
end
end TF
set_option Elab.async false
set_option linter.all false
set_option maxRecDepth 100000
set_option maxHeartbeats 4000000
/-! More rules: two arguments, min, max, isinstance, in over own lists, pop, {k: v}, chains, truth, local functions -/
namespace TF
open PySem PySem.Spec L2
open PyProof.Rows hiding St RelV
section
variable {X : Cx} {ρ : Rho} {G : Gs} {e a b c : Expr} {es : List Expr} {d d' d1 d2 d3 k : Dat} {ds l m : List Dat} {pos : Pos} {i j z : Int} {p : Addr} {kvs : List (Dat × Dat)} {D : DE} {rest body : List Stmt}
theorem px_call2 {f : Str} {id : String} {r : List V → Hp → VK → Prop} {pp : Pos} (hc : CallR X (.builtin id) r) (hg : Gl X f) (hm : X.mg f = none) (hv : bootBuiltins f = some (.builtin id)) (ha : PX X ρ G a d1) (hb : PX X ρ G b d2)
    (hr : ∀ (H : Hp) (x y : V) (Q : VK), GOk X.K H G → Rep X.K (hid H G) d1 x → Rep X.K (hid H G) d2 y → (∀ v H', Po X H G (fun d' G' => d' = d ∧ G' = G) v H' → Q v H') → r [x, y] H Q)
    (hn : f ≠ "__name__" := by decide) (hdb : (f == ("__debug__" : Str)) = false := by decide) (he : starEach [a, b] X.env = (false, eval a X.env) :: starEach [b] X.env := by rfl) (he2 : starEach [b] X.env = (false, eval b X.env) :: starEach [] X.env := by rfl)
    (hpl : (backTo pos (starEach [b] X.env)).any (·.1) = false := by rfl) : PX X ρ G (.Call (.Name f pp) [a, b] [] pos) d :=
  we_pe (pe_callB hc hg hm hv (pa_cons pe_we (pa_cons pe_we pa_nil he2) he) hn hdb he hpl) fun σ H S => ⟨ρ, G, _, ha, S, fun x H1 ⟨_, _, e1, o1, r1, q1, q1'⟩ => by
    subst q1; subst q1'
    refine ⟨ρ, _, _, hb, S.ext e1 o1, fun y H2 ⟨_, _, e2, o2, r2, q2, q2'⟩ => ?_⟩
    subst q2; subst q2'
    exact hr H2 x y _ o2 (r1.same e2.hid) r2 fun v H' z => Po.trans (e1.trans e2) z⟩
theorem px_max2 {pp : Pos} (hc : X.calm = true) (hm : X.mg "max" = none) (ha : PX X ρ G a (.int i)) (hb : PX X ρ G b (.int j)) (hg : Gl X "max" := by rfl) (he : starEach [a, b] X.env = (false, eval a X.env) :: starEach [b] X.env := by rfl) (he2 : starEach [b] X.env = (false, eval b X.env) :: starEach [] X.env := by rfl)
    (hpl : (backTo pos (starEach [b] X.env)).any (·.1) = false := by rfl) : PX X ρ G (.Call (.Name "max" pp) [a, b] [] pos) (.int (max i j)) :=
  px_call2 (call_max2 hc) hg hm (by decide +kernel) ha hb (fun H x y Q o rx ry k => by
    rw [Rep] at rx ry
    subst rx; subst ry
    refine ⟨i, j, rfl, k _ _ (po1' o ?_)⟩
    rw [Rep]
    congr 1
    split <;> omega) (he := he) (he2 := he2) (hpl := hpl)
theorem px_min2 {pp : Pos} (hc : X.calm = true) (hm : X.mg "min" = none) (ha : PX X ρ G a (.int i)) (hb : PX X ρ G b (.int j)) (hg : Gl X "min" := by rfl) (he : starEach [a, b] X.env = (false, eval a X.env) :: starEach [b] X.env := by rfl) (he2 : starEach [b] X.env = (false, eval b X.env) :: starEach [] X.env := by rfl)
    (hpl : (backTo pos (starEach [b] X.env)).any (·.1) = false := by rfl) : PX X ρ G (.Call (.Name "min" pp) [a, b] [] pos) (.int (min i j)) :=
  px_call2 (call_min2 hc) hg hm (by decide +kernel) ha hb (fun H x y Q o rx ry k => by
    rw [Rep] at rx ry
    subst rx; subst ry
    refine ⟨i, j, rfl, k _ _ (po1' o ?_)⟩
    rw [Rep]
    congr 1
    split <;> omega) (he := he) (he2 := he2) (hpl := hpl)
/-! ### min, max of a list of ints -/
theorem call_minL (hc : X.calm = true) : CallR X (.builtin "min") (fun xs H Q => ∃ (p : Addr) (ns : List Int), xs = [.ref p] ∧ SqL X.K H p (ns.map V.int) ∧ ns ≠ [] ∧ ∀ M, M ∈ ns → (∀ a ∈ ns, M ≤ a) → Q (.int M) H) := by
  intro pins s σ H xs us Q I r h
  obtain ⟨p, ns, rfl, hq, hne, q⟩ := h
  obtain ⟨u, rfl, rx⟩ := vals1 r
  cases rx
  obtain ⟨its, r', pl, hz⟩ := I.list hq
  have hi : IntsAre its ns := intsAre_of r'
  obtain ⟨xs, hx⟩ := hi.allInts.items
  have hns : ns = xs.toList.map (·.1) := by rw [← hi.numsOf, ← nums_intItems, ← hx]
  have hsz : 0 < xs.size := by
    have h3 : 0 < ns.length := List.length_pos_iff.mpr hne
    rw [hns, List.length_map, Array.length_toList] at h3; exact h3
  have hl := pl.isList
  rw [hx] at hl
  refine min_intList (I.ok.hd hc) hl hsz fun v h' tk hv hk => ?_
  obtain ⟨t, rfl⟩ := intItems_at hv
  obtain ⟨h1, h2⟩ := argBest_lt (numAt xs) (xs.size - 1)
  refine ⟨.int _, H, I.kept hk, ⟨t, rfl⟩, q _ ?_ fun a ha => ?_⟩
  · rw [hns, numAt_eq]; exact getD_mem (by rw [List.length_map, Array.length_toList]; omega)
  · rw [hns] at ha
    obtain ⟨j, hj, rfl⟩ := mem_getD ha
    rw [List.length_map, Array.length_toList] at hj
    rw [← numAt_eq]; exact h2 j (by omega)
theorem call_maxL (hc : X.calm = true) : CallR X (.builtin "max") (fun xs H Q => ∃ (p : Addr) (ns : List Int), xs = [.ref p] ∧ SqL X.K H p (ns.map V.int) ∧ ns ≠ [] ∧ ∀ M, M ∈ ns → (∀ a ∈ ns, a ≤ M) → Q (.int M) H) := by
  intro pins s σ H xs us Q I r h
  obtain ⟨p, ns, rfl, hq, hne, q⟩ := h
  obtain ⟨u, rfl, rx⟩ := vals1 r
  cases rx
  obtain ⟨its, r', pl, hz⟩ := I.list hq
  have hi : IntsAre its ns := intsAre_of r'
  obtain ⟨xs, hx⟩ := hi.allInts.items
  have hns : ns = xs.toList.map (·.1) := by rw [← hi.numsOf, ← nums_intItems, ← hx]
  have hsz : 0 < xs.size := by
    have h3 : 0 < ns.length := List.length_pos_iff.mpr hne
    rw [hns, List.length_map, Array.length_toList] at h3; exact h3
  have hl := pl.isList
  rw [hx] at hl
  refine max_intList (I.ok.hd hc) hl hsz fun v h' tk hv hk => ?_
  obtain ⟨t, rfl⟩ := intItems_at hv
  obtain ⟨h1, h2⟩ := argBest_gt (numAt xs) (xs.size - 1)
  refine ⟨.int _, H, I.kept hk, ⟨t, rfl⟩, q _ ?_ fun a ha => ?_⟩
  · rw [hns, numAt_eq]; exact getD_mem (by rw [List.length_map, Array.length_toList]; omega)
  · rw [hns] at ha
    obtain ⟨j, hj, rfl⟩ := mem_getD ha
    rw [List.length_map, Array.length_toList] at hj
    rw [← numAt_eq]; exact h2 j (by omega)
theorem px_minL {ns : List Int} {M : Int} {pp : Pos} (hc : X.calm = true) (hm : X.mg "min" = none) (ha : PX X ρ G a (.lst (ns.map .int))) (h1 : M ∈ ns) (h2 : ∀ a ∈ ns, M ≤ a) (hg : Gl X "min" := by rfl) (he : starEach [a] X.env = (false, eval a X.env) :: starEach [] X.env := by rfl) : PX X ρ G (.Call (.Name "min" pp) [a] [] pos) (.int M) :=
  px_call1 (call_minL hc) hg hm (by decide +kernel) ha (fun H x Q o r k => by
    rw [Rep] at r
    obtain ⟨q, vs, e, g1, r1⟩ := r
    refine ⟨q, ns, by rw [e], by rw [← r1.ints]; exact SqL.of (hid_le _ _ g1), List.ne_nil_of_mem h1, fun M' g2 g3 => ?_⟩
    obtain rfl : M' = M := Int.le_antisymm (g3 _ h1) (h2 _ g2)
    exact k _ _ (po1' o rfl)) (he := he)
theorem px_maxL {ns : List Int} {M : Int} {pp : Pos} (hc : X.calm = true) (hm : X.mg "max" = none) (ha : PX X ρ G a (.lst (ns.map .int))) (h1 : M ∈ ns) (h2 : ∀ a ∈ ns, a ≤ M) (hg : Gl X "max" := by rfl) (he : starEach [a] X.env = (false, eval a X.env) :: starEach [] X.env := by rfl) : PX X ρ G (.Call (.Name "max" pp) [a] [] pos) (.int M) :=
  px_call1 (call_maxL hc) hg hm (by decide +kernel) ha (fun H x Q o r k => by
    rw [Rep] at r
    obtain ⟨q, vs, e, g1, r1⟩ := r
    refine ⟨q, ns, by rw [e], by rw [← r1.ints]; exact SqL.of (hid_le _ _ g1), List.ne_nil_of_mem h1, fun M' g2 g3 => ?_⟩
    obtain rfl : M' = M := Int.le_antisymm (h2 _ g2) (g3 _ h1)
    exact k _ _ (po1' o rfl)) (he := he)
/-! ### in, not in over any sequence -/
def SeqOf (G : Gs) (d : Dat) (l : List Dat) : Prop := d = .tup l ∨ d = .lst l ∨ ∃ p, d = .fn p ∧ G p = some (.lst l)
theorem seq_in {H : Hp} {K : PySem.W.Frag} {y : V} (h : SeqOf G d l) (o : GOk K H G) (r : Rep K (hid H G) d y) : ∃ p vs, y = .ref p ∧ (H p = some (.lst vs) ∨ SqT K H p vs) ∧ RepL K H l vs := by
  rcases h with rfl | rfl | ⟨p, rfl, hG⟩
  · exact in_of (.inl r)
  · exact in_of (.inr r)
  · obtain ⟨vs, h3, r3⟩ := o p _ hG
    exact ⟨p, vs, r, .inl h3, r3.same hid_le⟩
theorem pxc_inS (hu : X.A.units + 9 < cLine) (ha : PX X ρ G a d1) (hb : PX X ρ G b d2) (hl : SeqOf G d2 l) (p1 : plainD 8 d1 = true) (p2 : l.all (plainD 8) = true) : PXC X ρ G .In a b (.bl (l.any fun e => eqD e d1)) :=
  pxc_op (op_inD hu) ha hb fun H x y Q o hx hy k => by
    obtain ⟨p, vs, h1, h2, h3⟩ := seq_in hl o hy
    exact ⟨p, vs, d1, l, h1, h2, h3, hx.same hid_le, p1, p2, k _ _ (po1' o rfl)⟩
theorem pxc_notInS (hu : X.A.units + 9 < cLine) (ha : PX X ρ G a d1) (hb : PX X ρ G b d2) (hl : SeqOf G d2 l) (p1 : plainD 8 d1 = true) (p2 : l.all (plainD 8) = true) : PXC X ρ G .NotIn a b (.bl (!(l.any fun e => eqD e d1))) :=
  pxc_op (op_notInD hu) ha hb fun H x y Q o hx hy k => by
    obtain ⟨p, vs, h1, h2, h3⟩ := seq_in hl o hy
    exact ⟨p, vs, d1, l, h1, h2, h3, hx.same hid_le, p1, p2, k _ _ (po1' o rfl)⟩
theorem pxc_ne (hu : X.A.units + 9 < cLine) (ha : PX X ρ G a d1) (hb : PX X ρ G b d2) (p1 : plainD 9 d1 = true) (p2 : plainD 9 d2 = true) (hop : OpR X (compareOp .NotEq) fun x y H Q => ∃ d e, Rep X.K H d x ∧ Rep X.K H e y ∧ plainD 9 d = true ∧ plainD 9 e = true ∧ Q (.bl (!eqD d e)) H) : PXC X ρ G .NotEq a b (.bl (!eqD d1 d2)) :=
  pxc_op hop ha hb fun H x y Q o hx hy k => ⟨d1, d2, hx.same hid_le, hy.same hid_le, p1, p2, k _ _ (po1' o rfl)⟩
/-! ### lists of any kind as sequences -/
theorem px_ixA (ha : PX X ρ G a d1) (hb : PX X ρ G b (.int i)) (hl : SeqOf G d1 l) (hi : atI l i = some d) (hs : PlainIx b := by intro _ _; rfl) : PX X ρ G (.Subscript a b pos) d := by
  rcases hl with rfl | rfl | ⟨p, rfl, hG⟩
  · exact px_ixT ha hb hi hs
  · exact px_ixL ha hb hi hs
  · exact px_ixO ha hb hG hi hs
theorem px_sliceL {lo hi : Option Expr} {p2 : Pos} {ol oh : Option Int} (ha : PX X ρ G a (.lst l)) (hl : PXo X ρ G lo ol) (hh : PXo X ρ G hi oh) : PX X ρ G (.Subscript a (.Slice lo hi none p2) pos) (.lst (cutD l ol oh)) :=
  we_pe (pe_slice sl_list pe_we po_wo po_wo) fun σ H S => ⟨ρ, G, _, ha, S, fun x H1 ⟨_, _, e1, o1, r1, q1, q1'⟩ => by
    subst q1; subst q1'
    refine ⟨ρ, _, ol, hl, S.ext e1 o1, fun H2 e2 o2 => ⟨ρ, _, oh, hh, S.ext (e1.trans e2) o2, fun H3 e3 o3 => ?_⟩⟩
    have r3 := r1.same (e2.trans e3).hid
    rw [Rep] at r3
    obtain ⟨q, vs, rfl, h1, h2⟩ := r3
    exact ⟨q, vs, rfl, SqL.of (hid_le _ _ h1), fun t ht => Po.trans ((e1.trans e2).trans e3) (new_lst o3 ht (cut_rep h2))⟩⟩
/-! ### chains of int comparisons -/
theorem px_leLe (ha : PX X ρ G a (.int i)) (hb : PX X ρ G b (.int j)) (hc : PX X ρ G c (.int z)) (hm : lastMarks [.LtE, .LtE] [b, c] = false := by with_unfolding_all rfl) : PX X ρ G (.Compare a [.LtE, .LtE] [b, c] pos) (.bl (decide (i ≤ j) && decide (j ≤ z))) :=
  we_pe (pe_chain op_le op_le pe_we pe_we pe_we hm) fun σ H S => ⟨ρ, G, _, ha, S, fun x H1 ⟨_, _, e1, o1, r1, q1, q1'⟩ => by
    subst q1; subst q1'
    refine ⟨ρ, _, _, hb, S.ext e1 o1, fun y H2 ⟨_, _, e2, o2, r2, q2, q2'⟩ => ?_⟩
    subst q2; subst q2'
    refine ⟨i, j, r1, r2, decide (i ≤ j), rfl, ?_⟩
    by_cases h : i ≤ j
    · rw [decide_eq_true h, if_pos rfl]
      refine ⟨ρ, _, _, hc, S.ext (e1.trans e2) o2, fun w' H3 ⟨_, _, e3, o3, r3, q3, q3'⟩ => ?_⟩
      subst q3; subst q3'
      exact ⟨j, z, r2, r3, Po.trans ((e1.trans e2).trans e3) (po1' o3 rfl)⟩
    · rw [decide_eq_false h, if_neg (by decide)]
      exact Po.trans (e1.trans e2) (po1' o2 rfl)⟩
theorem pxt_leLe (ha : PX X ρ G a (.int i)) (hb : PX X ρ G b (.int j)) (hc : PX X ρ G c (.int z)) (hm : lastMarks [.LtE, .LtE] [b, c] = false := by with_unfolding_all rfl) : PXT X ρ G (.Compare a [.LtE, .LtE] [b, c] pos) (decide (i ≤ j) && decide (j ≤ z)) :=
  wt_pt (pt_chain op_le op_le pe_we pe_we pe_we hm) fun σ H S => ⟨ρ, G, _, ha, S, fun x H1 ⟨_, _, e1, o1, r1, q1, q1'⟩ => by
    subst q1; subst q1'
    refine ⟨ρ, _, _, hb, S.ext e1 o1, fun y H2 ⟨_, _, e2, o2, r2, q2, q2'⟩ => ?_⟩
    subst q2; subst q2'
    refine ⟨i, j, r1, r2, decide (i ≤ j), rfl, ?_⟩
    by_cases h : i ≤ j
    · rw [decide_eq_true h, if_pos rfl]
      refine ⟨ρ, _, _, hc, S.ext (e1.trans e2) o2, fun w' H3 ⟨_, _, e3, o3, r3, q3, q3'⟩ => ?_⟩
      subst q3; subst q3'
      exact ⟨j, z, r2, r3, decide (j ≤ z), rfl, _, (e1.trans e2).trans e3, o3, rfl, rfl⟩
    · rw [decide_eq_false h, if_neg (by decide)]
      exact ⟨false, rfl, _, e1.trans e2, o2, rfl, rfl⟩⟩
end
end TF
set_option Elab.async false
set_option linter.all false
set_option maxRecDepth 100000
set_option maxHeartbeats 4000000
/-! More rules: isinstance, pop, {k: v}, len of an own dict, truth of own lists, functions held by local names, x op= e, is None -/
namespace TF
open PySem PySem.Spec L2
open PyProof.Rows hiding St RelV
section
variable {X : Cx} {ρ : Rho} {G : Gs} {e a b c : Expr} {es : List Expr} {d d' d1 d2 d3 k : Dat} {ds l m : List Dat} {pos : Pos} {i j z : Int} {p : Addr} {kvs : List (Dat × Dat)} {D : DE} {rest body : List Stmt}
/-! ### xs.pop() -/
theorem we_pop {apos cpos : Pos} {Q : Dat → Gs → Prop} (hx : PX X ρ G a (.fn p)) (hG : G p = some (.lst (l ++ [d]))) (q : Q d (put G p (.lst l)))
    (hbase : attributeBase a "pop" X.env (eval a X.env) = eval a X.env := by rfl) (hline : (apos.endLine == cpos.line) = true := by rfl) : WE X ρ G (.Call (.Attribute a "pop" apos) [] [] cpos) Q :=
  we_pe (pe_bm0 PySem.F.plainAttrs_list PySem.F.slot_list_pop PySem.F.type_list_pop mt_pop pe_we hbase hline) fun σ H S => ⟨ρ, G, _, hx, S, fun x H1 ⟨_, _, e1, o1, r1, q1, q1'⟩ => by
    subst q1; subst q1'
    cases (show x = V.ref p from r1)
    obtain ⟨vs, h1, r2⟩ := o1 p _ hG
    have hl := r2.length
    rw [List.length_append, List.length_singleton] at hl
    obtain ⟨y, hy, ry⟩ := r2.get (i := l.length) (d := d) (by simp)
    refine ⟨.inl ⟨rfl, vs, SqL.of h1⟩, p, vs, y, rfl, rfl, h1, by rw [hl]; exact hy, ?_⟩
    have r3 := r2.take l.length
    rw [List.take_left'  rfl, show vs.take l.length = vs.dropLast by rw [List.dropLast_eq_take, hl]; rfl] at r3
    obtain ⟨E, O⟩ := own_set o1 hG r3
    exact ⟨d, _, e1.trans E, O, ry.same E.hid, q⟩⟩
/-! ### the truth of an own list -/
theorem pxt_truthO {q : Bool} (h : PX X ρ G e (.fn p)) (hG : G p = some (.lst l)) (hq : q = !l.isEmpty) (he : ∀ whole, isTrue e X.env whole = (do let v ← whole; standAt e.pos; holding [v] (truthy v)) := by intro _; rfl) : PXT X ρ G e q :=
  wt_pt (pt_truth pe_we he) fun σ H S => ⟨ρ, G, _, h, S, fun x H1 ⟨_, _, e1, o1, r1, q1, q1'⟩ => by
    subst q1; subst q1'
    cases (show x = V.ref p from r1)
    obtain ⟨vs, h1, r2⟩ := o1 p _ hG
    refine ⟨q, .inl ⟨vs, SqL.of h1, ?_⟩, _, e1, o1, rfl, rfl⟩
    have := r2.length
    subst hq
    cases l <;> cases vs <;> simp_all⟩
/-! ### a, b = e where e changes something -/
theorem wss_unpackE {tg : Expr} {f : Dat → Rho → Option Rho} (hg : PGD X tg f) (h : WE X ρ G e fun d G' => ∃ ρ', f d ρ = some ρ' ∧ WSs X ρ' G' rest D) (hs : swapsWithSole [tg] e pos.line X.env = pure false := by rfl) (hw : swappedStores [tg] e X.env = pure none := by rfl)
    (h1 : (assignEach [tg] X.env).map (·.2) = [assign tg X.env] := by rfl) : WSs X ρ G (.Assign [tg] e pos :: rest) D := wss_cons fun pins s σ H I S => by
  refine wpAny_Assign_stores (thn (h pins s σ H I S) fun v s1 ⟨x, H1, I1, r1, _, _, e1, o1, rx, ρ', hf, q⟩ => ?_) hs hw
  rw [h1]
  exact thn (hg pins s1 σ H1 x v ρ ρ' _ _ I1 r1 (S.ext e1 o1) rx hf) fun _ s2 ⟨σ2, H2, I2, e2, S2⟩ => ⟨σ2, H2, I2, ρ', _, e1.trans e2, S2, q⟩
/-! ### x += e -/
theorem wss_augI (n : Nat) {x : Str} {pos' : Pos} (hN : X.N.Nodup) (hv : ρ[n]? = some (some (.int i))) (h : PX X ρ G e (.int j)) (q : WSs X (ρ.set n (some (.int (i + j)))) G rest D) (hi : X.N[n]? = some x := by rfl) (hx : Loc X.env.scope x := by first | exact Or.inl rfl | exact Or.inr rfl)
    (hf : X.fn x = true ∨ X.env.scope.names.lookup x = some .local := by first | exact .inl rfl | exact .inr rfl | assumption) : WSs X ρ G (.AugAssign (.Name x pos') .Add e pos :: rest) D :=
  wss_cons (ws_ps (ps_aug (i := n) hN hi hx pe_we ip_add hf) fun σ H S => by
    obtain ⟨v, h1, h2⟩ := S.env n _ hv
    refine ⟨v, h1, ρ, G, _, h, S, fun y H1 ⟨_, _, e1, o1, r1, q1, q1'⟩ => ?_⟩
    subst q1; subst q1'
    exact ⟨i, j, h2, r1, _, _, e1, Stt.set (d := .int (i + j)) (v := .int (i + j)) (S.ext e1 o1) rfl, q⟩)
/-! ### is None -/
def isNon : Dat → Bool
  | .non => true
  | _ => false
theorem rep_non {K : PySem.W.Frag} {H : Hp} {v : V} (r : Rep K H d v) : decide (v = .non) = isNon d := by
  cases d <;> rw [Rep] at r <;> first
    | (subst r; rfl)
    | (obtain ⟨_, rfl, _⟩ := r; rfl)
    | (obtain ⟨_, _, rfl, _⟩ := r; rfl)
theorem pxc_isN {n pos'} (ha : PX X ρ G a d1) : PXC X ρ G .Is a (.Constant .none n pos') (.bl (isNon d1)) :=
  pxc_op op_isN ha px_non fun H x y Q o hx hy k => ⟨hy, k _ _ (po1' o (by rw [rep_non hx]; rfl))⟩
theorem pxc_notN {n pos'} (ha : PX X ρ G a d1) : PXC X ρ G .IsNot a (.Constant .none n pos') (.bl (!isNon d1)) :=
  pxc_op op_notN ha px_non fun H x y Q o hx hy k => ⟨hy, k _ _ (po1' o (by rw [rep_non hx]; rfl))⟩
/-! ### len of an own dict -/
theorem call_lenOwn : CallR X (.builtin "len") (fun xs H Q => ∃ p ys, xs = [.ref p] ∧ H p = some (dctO p ys) ∧ Q (.int ys.length) H) := by
  intro pins s σ H xs us Q I r h
  obtain ⟨p, ys, rfl, hp, q⟩ := h
  obtain ⟨u, rfl, rx⟩ := vals1 r
  cases rx
  obtain ⟨⟨h1, h2, h3, o, es, ep, h4, h5, h6, h7⟩, _, _⟩ := (show ObjOk X.prog X.w H s.heap p (.ext (DictAt p ys)) from I.hok p _ hp)
  have hsz : es.size = ys.length := by rw [← Array.length_toList, h7, List.length_map]
  have hm : MeetsIn X.prog X.w (Builtin.«dict.__len__» ⟨[.ref p], []⟩) (fun _ R s' => s'.heap.get? p = some o ∧ R (.ok (.ret (.int ys.length s'.toks))) { s' with toks := s'.toks + 1 }) :=
    .of_wp fun A R s' ⟨ho, h⟩ => by
      show wpAny _ _ (dictSize p >>= _) _ _ s'
      unfold dictSize
      refine wpAny_bind (wpAny_bind (wpAny_dictEntries ho h6 (wpAny_pure ?_)))
      show wpAny _ _ (Builtin.Dict.pendingCount p >>= _) _ _ s'
      refine wpAny_bind (wpAny_pendingCount_other h1 ?_)
      refine wpAny_ret_mkInt ?_
      rw [Nat.add_zero, hsz]; exact h
  have ht : s.TypeIs (.ref p) "dict" := ⟨o, h4, h5.1⟩
  have hl := line63
  refine Calls.call_function_entry kind_len plain_len entry_len (args_len1 _) ?_
  unfold Builtin.«len»
  refine wpAny_bind (m := oneArg "len" _) (wpAny_pure ?_)
  refine wpAny_bind (m := callSpecial? (.ref p) (Str.ofString "__len__")) (wpAny_callSpecial?_slot (name := Str.ofString "__len__") ht F.slot_dict_len
    (call_meetsIn F.slot_dict_len ht F.entry_dict_len (F.args_dict_len_1 _) hm ⟨h4, ?_⟩))
  show wpAny _ _ _ _ _ { s with toks := s.toks + 1 }
  refine wpAny_bind (wpAny_holding (wpAny_pure ?_))
  refine wpAny_bind (wpAny_letGo ?_)
  show wpAny _ _ (if ((ys.length : Nat) : Int) < 0 then _ else _) _ _ _
  rw [if_neg (by omega)]
  show wpAny _ _ (if ((ys.length : Nat) : Int) ≥ 2 ^ 63 then _ else _) _ _ _
  rw [if_neg (by omega)]
  exact wpAny_bind (wpAny_mkInt (wpAny_pure ⟨_, rfl, .int ys.length, H, I.tok _, ⟨_, rfl⟩, q⟩))
theorem we_lenD {pp : Pos} {Q : Dat → Gs → Prop} (hm : X.mg "len" = none) (ha : WE X ρ G a fun d G' => ∃ p kvs, d = .fn p ∧ G' p = some (.dct kvs) ∧ Q (.int kvs.length) G') (hg : Gl X "len" := by rfl) (he : starEach [a] X.env = (false, eval a X.env) :: starEach [] X.env := by rfl) : WE X ρ G (.Call (.Name "len" pp) [a] [] pos) Q :=
  we_pe (pe_callB call_lenOwn hg hm PySem.boot_len (pa_cons pe_we pa_nil he) (by decide) (by decide) he rfl) fun σ H S => ⟨ρ, G, _, ha, S, fun x H1 ⟨_, G1, e1, o1, r1, p, kvs, q1, hG, q⟩ => by
    subst q1
    cases (show x = V.ref p from r1)
    obtain ⟨xs, h1, r2⟩ := o1 p _ hG
    refine ⟨p, xs, rfl, h1, .int kvs.length, G1, e1, o1, ?_, q⟩
    rw [Rep, r2.length]⟩
theorem px_lenD {pp : Pos} (hm : X.mg "len" = none) (ha : PX X ρ G a (.fn p)) (hG : G p = some (.dct kvs)) (hg : Gl X "len" := by rfl) (he : starEach [a] X.env = (false, eval a X.env) :: starEach [] X.env := by rfl) : PX X ρ G (.Call (.Name "len" pp) [a] [] pos) (.int kvs.length) :=
  we_lenD hm (PX.we ha ⟨p, kvs, rfl, hG, rfl, rfl⟩) hg he
/-! ### a function that a local name holds -/
structure DfA (P : Program) (w : World) (K : PySem.W.Frag) (mg : Str → Option Value) (base : Heap) (f : Addr) (ps : List Str) (k : Nat) (S : SpD) : Prop where
  ex : ∃ fd, FnOk P w K mg base CX0 k f fd ps (liftG K S) ∧ PySem.W.keepIn K (.ref f) = true ∧ Binds K fd ps []
theorem we_callV {S : SpD} {kk : Nat} {ps : List Str} {x : Str} {pp : Pos} {f : Addr} {Q : Dat → Gs → Prop} (hx : PX X ρ G (.Name x pp) (.fn f)) (F : DfA X.prog X.w X.K X.mg X.base f ps kk S) (hr : Room kk X.A) (ha : PXs X ρ G (e :: es) ds) (hS : S ds G Q)
    (he : starEach (e :: es) X.env = (false, eval e X.env) :: starEach es X.env := by rfl) (hpl : (backTo pos (starEach es X.env)).any (·.1) = false := by rfl) : WE X ρ G (.Call (.Name x pp) (e :: es) [] pos) Q := by
  obtain ⟨fd, F, hk, hb⟩ := F.ex
  intro pins s σ H I S0
  refine wpAny_Call_Name_kw (thn (hx pins s σ H I S0) fun v s1 ⟨y, H1, I1, r1, _, _, e1, o1, rx, q1, q1'⟩ => ?_)
  subst q1; subst q1'
  cases (show y = V.ref f from rx)
  cases r1
  refine PySem.W.callWith_K (h₀ := X.base) I1.ok.mod.kin hk (thn (ha pos pins s1 σ H1 I1 (S0.ext e1 o1)) fun us s2 ⟨vs, H2, I2, r, _, _, e2, o2, r2, q2, q2'⟩ => ⟨I2.kIn, ?_⟩) he hpl
  subst q2; subst q2'
  exact run_fn F hr hb .nil pass0 I2 r ⟨_, _, Q, o2, by rw [List.append_nil]; exact r2, hS, fun v H' d G' e' o' r' q' => ⟨d, G', (e1.trans e2).trans e', o', r', q'⟩⟩
/-- a module's function as a value -/
theorem px_fn {x : Str} {f : Addr} (hm : X.mg x = some (.ref f)) (hg : Gl X x := by rfl) (hd : (x == ("__debug__" : Str)) = false := by decide) : PX X ρ G (.Name x pos) (.fn f) :=
  we_pe (pe_glob (v := .ref f) hg hm rfl hd) fun σ H S => po1' S.own rfl
/-- a module's int -/
theorem px_gint {x : Str} {t : Tok} (hm : X.mg x = some (.int i t)) (hg : Gl X x := by rfl) (hd : (x == ("__debug__" : Str)) = false := by decide) : PX X ρ G (.Name x pos) (.int i) :=
  we_pe (pe_glob (v := .int i) hg hm ⟨t, rfl⟩ hd) fun σ H S => po1' S.own rfl
/-! ### {k: v} -/
theorem we_d1 {Q : Dat → Gs → Prop} (hu : X.A.units + 9 < cLine) (ha : ∀ p, G p = none → PX X ρ (put G p (.dct [])) a k) (hb : ∀ p, G p = none → PX X ρ (put G p (.dct [])) b d) (hk : keyD 6 k = true) (hr : ∃ l, k = .tup l) (h : ∀ p, G p = none → Q (.fn p) (put G p (.dct [(k, d)]))) : WE X ρ G (.Dict [some a] [b] pos) Q := fun pins s σ H I S => by
  have hp : H s.heap.objs.size = none := I.hok.fresh (Nat.le_refl _)
  have hGp := S.own.free hp
  obtain ⟨E0, O0⟩ := own_dctN (X := X) S.own hp
  have I0 : Inv X pins σ (upd H s.heap.objs.size (dctO s.heap.objs.size [])) { s with heap := s.heap.push { cls := .type "dict", data := .dict #[] } } :=
    I.laid (a := s.heap.objs.size) (o := dctO s.heap.objs.size []) (t' := s.toks) (fun _ _ q => Heap.get?_push_of_some _ q) (Nat.le_refl _)
      (dct_ok ⟨beq_eq_false_iff_ne.mpr (Ne.symm (Nat.ne_of_lt (Inv.big I))), Nat.zero_le _, List.nodup_nil, _, #[], 0, Heap.get?_push_size _ rfl, ⟨rfl, rfl, rfl⟩, rfl, rfl⟩)
  refine wpAny_Dict_any rfl rfl (by simp) (show 1 ≤ 15 by decide) ?_
  show wpAny _ _ (evalPairs [(eval a X.env, do let x ← eval b X.env; standAt pos; pure x)]) _ _ _
  refine evalPairs_cons (thn (ha _ hGp pins _ σ _ I0 (S.ext E0 O0)) fun kv s1 ⟨x, H1, I1, rx, _, _, e1, o1, r1, q1, q1'⟩ => ?_)
  subst q1; subst q1'
  refine wpAny_bind (thn (hb _ hGp pins s1 σ H1 I1 (S.ext (E0.trans e1) o1)) fun vv s2 ⟨y, H2, I2, ry, _, _, e2, o2, r2, q2, q2'⟩ => ?_)
  subst q2; subst q2'
  refine wpAny_bind (wpAny_standAt (wpAny_pure (evalPairs_nil ?_)))
  obtain ⟨l, rfl⟩ := hr
  have r1' := (r1.same e2.hid).same hid_le
  have hx : ∃ t, x = V.ref t := by rw [Rep] at r1'; obtain ⟨t, _, e, _⟩ := r1'; exact ⟨t, e⟩
  obtain ⟨t, rfl⟩ := hx
  cases rx
  obtain ⟨xs, h3, r3⟩ := o2 s.heap.objs.size _ put_same
  obtain ⟨z1, z2, dd⟩ := dict_of I2 h3 (r3.same hid_le)
  have rn := DRep.put hk (r1.same e2.hid) ry r2 r3
  unfold storeAll
  rw [List.forIn_cons]
  refine wpAny_bind (wpAny_bind (wpAny_dictSet_heap (hsz := z2) (knd := datKind X.prog X.w) (show X.A.units + 6 < cLine by omega) (key_at I2 hk r1') dd fun h' dd' hsb => wpAny_pure ?_))
  show wpAny _ _ (forIn [] PUnit.unit _) _ _ _
  rw [List.forIn_nil]
  refine wpAny_pure ?_
  obtain ⟨E, O⟩ := own_dct (X := X) o2 put_same rn
  obtain ⟨o', es', ep', g1, g2, g3, g4, _, g5⟩ := dd'
  refine ⟨.ref s.heap.objs.size, _, I2.write (x := s.heap.objs.size) (e := s.heap.objs.size) (t' := s2.toks + drawD (.tup l)) (by rw [h3]; exact True.intro) (.inl rfl) (fun b o hb z => (hsb.2 b hb).trans z) ⟨o', g1⟩ (dct_ok ⟨z1, ?_, g5, o', es', ep', g1, g2, g3, g4⟩), rfl, ?_⟩
  · refine Nat.le_trans (Nat.le_of_eq rn.length) (Nat.le_trans (putD_length _ _ _) ?_)
    exact (by decide : 1 ≤ sizeLine)
  · rw [put_put] at E O
    exact ⟨.fn s.heap.objs.size, _, E0.trans (e1.trans (e2.trans E)), O, rfl, h _ hGp⟩
end
end TF
set_option Elab.async false
set_option linter.all false
set_option maxRecDepth 100000
set_option maxHeartbeats 4000000
/-! isinstance of data and a built-in type -/
namespace TF
open PySem PySem.Spec L2
open PyProof.Rows hiding St RelV
def tyS : Dat → Option String
  | .non => some "NoneType"
  | .bl _ => some "bool"
  | .int _ => some "int"
  | .str _ => some "str"
  | .fn _ => none
  | .scr _ => some "list"
  | .tup _ => some "tuple"
  | .lst _ => some "list"
def isS (t c : String) : Bool := t == c || (t == "bool" && c == "int")
theorem kit_of {K : PySem.W.Frag} (t c : String) (ht : t ∈ ["NoneType", "bool", "int", "str", "tuple", "list"]) (hc : c ∈ ["bool", "int", "str", "tuple", "list"]) : PySem.W.kitOne K (.type t) (.type c) = some (isS t c) := by
  simp only [List.mem_cons, List.not_mem_nil, or_false] at ht hc
  rcases ht with rfl | rfl | rfl | rfl | rfl | rfl <;> rcases hc with rfl | rfl | rfl | rfl | rfl <;> rfl
section
variable {X : Cx} {ρ : Rho} {G : Gs} {e a b c : Expr} {d : Dat} {pos : Pos}
theorem isi_at {pins : List (Addr × Obj)} {σ : St} {H : Hp} {s : Shared} {A : Around} {E : Value → Shared → Prop} {Q : Value → Shared → Prop} {cl : Value} {q : Bool} {v : V} {u : Value} {t : String} (I : Inv X pins σ H s) (ru : RelV v u) (r : Rep X.K H d v) (ht : tyS d = some t)
    (ek : PySem.W.kitOne X.K (.type t) cl = some q) (h : ∀ tk, Q (.bool q) { s with toks := tk }) : wpAny (model X.prog X.w) A (call (.builtin "isinstance") [u, cl]) Q E s := by
  cases d with
  | fn a => cases ht
  | non => cases ht; rw [Rep] at r; subst r; exact isinst_ok I ru (.non) ek h
  | bl b => cases ht; rw [Rep] at r; subst r; exact isinst_ok I ru (.bl b) ek h
  | int b => cases ht; rw [Rep] at r; subst r; exact isinst_ok I ru (.int b) ek h
  | str b => cases ht; rw [Rep] at r; subst r; exact isinst_ok I ru (.str b) ek h
  | scr ns =>
    cases ht
    rw [Rep] at r
    obtain ⟨a, rfl, hq⟩ := r
    cases ru
    obtain ⟨its, r', pl, hz⟩ := I.list hq
    obtain ⟨o, h1, h2, _⟩ := pl.isList
    exact PySem.W.kia_one PySem.W.kitx_list I.kIn ⟨_, h1, h2⟩ ek (fun z => nomatch z) h
  | tup l =>
    cases ht
    rw [Rep] at r
    obtain ⟨a, vs, rfl, hq, _⟩ := r
    cases ru
    obtain ⟨its, r', pl, hz⟩ := I.tuple hq
    obtain ⟨o, h1, h2, _⟩ := pl
    exact PySem.W.kia_one PySem.W.kitx_tuple I.kIn ⟨_, h1, h2⟩ ek (fun z => nomatch z) h
  | lst l =>
    cases ht
    rw [Rep] at r
    obtain ⟨a, vs, rfl, hq, _⟩ := r
    cases ru
    obtain ⟨its, r', pl, hz⟩ := I.list (SqL.of hq)
    obtain ⟨o, h1, h2, _⟩ := pl.isList
    exact PySem.W.kia_one PySem.W.kitx_list I.kIn ⟨_, h1, h2⟩ ek (fun z => nomatch z) h
theorem call_isi {d : Dat} {t : String} {T : String} (ht : tyS d = some t) (hT : T ∈ ["bool", "int", "str", "tuple", "list"]) : CallR X (.builtin "isinstance") (fun xs H Q => ∃ v, xs = [v, .ty T] ∧ Rep X.K H d v ∧ Q (.bl (isS t T)) H) := by
  intro pins s σ H xs us Q I r h
  obtain ⟨v, rfl, rd, q⟩ := h
  obtain ⟨u, w', rfl, ru, rw'⟩ := vals2 r
  cases (show w' = Value.type T from rw')
  refine isi_at I ru rd ht (kit_of t T ?_ hT) fun tk => ⟨.bl _, H, I.tok _, rfl, q⟩
  cases d <;> simp only [tyS, Option.some.injEq, reduceCtorEq] at ht <;> subst ht <;> decide
theorem px_isi {t : String} {T : Str} {T' : String} {pp p2 : Pos} (hm : X.mg "isinstance" = none) (hT : X.mg T = none) (ha : PX X ρ G a d) (ht : tyS d = some t := by rfl) (hb : bootBuiltins T = some (.type T') := by decide +kernel) (hT' : T' ∈ ["bool", "int", "str", "tuple", "list"] := by decide) (hg : Gl X "isinstance" := by rfl) (hgT : Gl X T := by rfl)
    (hn : T ≠ "__name__" := by decide) (hdb : (T == ("__debug__" : Str)) = false := by decide) (he : starEach [a, .Name T p2] X.env = (false, eval a X.env) :: starEach [.Name T p2] X.env := by rfl) : PX X ρ G (.Call (.Name "isinstance" pp) [a, .Name T p2] [] pos) (.bl (isS t T')) :=
  we_pe (pe_callB (call_isi ht hT') hg hm (by decide +kernel) (pa_cons pe_we (pa_cons (pe_bltn (v := .ty T') hgT hT hb rfl hn hdb) pa_nil) he) (by decide) (by decide) he rfl) fun σ H S => ⟨ρ, G, _, ha, S, fun x H1 ⟨_, _, e1, o1, r1, q1, q1'⟩ => by
    subst q1; subst q1'
    exact ⟨x, rfl, r1.same hid_le, Po.trans e1 (po1' o1 rfl)⟩⟩
end
end TF
set_option Elab.async false
set_option linter.all false
set_option maxRecDepth 100000
set_option maxHeartbeats 4000000
/-! Comprehensions that change nothing: with and without a test, as expressions and as stored lists -/
namespace TF
open PySem PySem.Spec L2
open PyProof.Rows hiding St RelV
/-- G' knows all own objects of G -/
def Kn (G G' : Gs) : Prop := ∀ q o, G q = some o → G' q = some o
theorem Kn.refl (G : Gs) : Kn G G := fun _ _ h => h
theorem kn_put {G : Gs} {p : Addr} {o : OD} (h : G p = none) : Kn G (put G p o) := fun q u e => by
  by_cases hq : q = p
  · subst hq; rw [h] at e; cases e
  · rw [put_ne hq]; exact e
theorem SeqOf.kn {G G' : Gs} {d : Dat} {l : List Dat} (h : SeqOf G d l) (k : Kn G G') : SeqOf G' d l := by
  rcases h with h | h | ⟨p, h1, h2⟩
  · exact .inl h
  · exact .inr (.inl h)
  · exact .inr (.inr ⟨p, h1, k _ _ h2⟩)
section
variable {X : Cx} {ρ : Rho} {G : Gs} {elt target iter c : Expr} {ifs : List Expr} {scope : Scope} {cpos pos pos' : Pos} {Nc : List Str} {caps : List (Option Nat)} {l : List Dat} {f : Dat → Rho → Option Rho} {D : DE} {rest : List Stmt}
theorem wi_pv {tg it : Expr} {Pv : Nat → List Dat → Gs → Prop} (hi : WI X ρ G tg it fun l' G' => l' = l ∧ G' = G) (h0 : Pv 0 [] G) : WI X ρ G tg it fun l' G' => l' = l ∧ Pv 0 [] G' := fun pins s σ H I S =>
  thn (hi pins s σ H I S) fun v s1 h1 => thn h1 fun itv s2 ⟨it, fp, tn, J, H', e, I', T, st, fk, l', G', e', o', wk, q1, q2⟩ => ⟨it, fp, tn, J, H', e, I', T, st, fk, l', G', e', o', wk, q1, by rw [q2]; exact h0⟩
theorem step_map (g : Dat → Dat) (hz : l.length ≤ 5000)
    (hstep : ∀ C s' H' fp G' d, d ∈ l → Kn G G' → ∃ ρ', f d (pick caps ρ) = some ρ' ∧ PX (compCx X Nc scope C s' H' fp) ρ' G' elt (g d)) :
    ∀ C s' H' fp Dd i d acc G', l[i]? = some d → (G' = G ∧ acc = (l.take i).map g) → G' Dd = none → ∃ ρ', f d (pick caps ρ) = some ρ' ∧
      WTail (compCx X Nc scope C s' H' fp) ρ' (put G' Dd (.lst acc)) (emitT elt (compCx X Nc scope C s' H' fp).env (.ref Dd)) fun G'' => ∃ acc' G4, acc'.length ≤ acc.length + 1 ∧ G4 Dd = none ∧ G'' = put G4 Dd (.lst acc') ∧ (G4 = G ∧ acc' = (l.take (i + 1)).map g) := by
  rintro C s' H' fp Dd i d acc G' hd ⟨rfl, rfl⟩ hD
  obtain ⟨ρ', h1, h2⟩ := hstep C s' H' fp (put G' Dd (.lst ((l.take i).map g))) d (List.mem_of_getElem? hd) (kn_put hD)
  refine ⟨ρ', h1, wtail_emit rfl put_same ?_ (PX.we h2 ⟨put_same, _, G', ?_, hD, put_put, rfl, ?_⟩)⟩
  · have : ((l.take i).map g).length ≤ l.length := by rw [List.length_map, List.length_take]; omega
    exact Nat.lt_of_le_of_lt (Nat.le_trans this hz) (by decide)
  · simp
  · rw [List.take_add_one, hd]
    simp
theorem step_fil (p : Dat → Bool) (g : Dat → Dat) (hz : l.length ≤ 5000)
    (hstep : ∀ C s' H' fp G' d, d ∈ l → Kn G G' → ∃ ρ', f d (pick caps ρ) = some ρ' ∧ PXT (compCx X Nc scope C s' H' fp) ρ' G' c (p d) ∧ (p d = true → PX (compCx X Nc scope C s' H' fp) ρ' G' elt (g d))) :
    ∀ C s' H' fp Dd i d acc G', l[i]? = some d → (G' = G ∧ acc = ((l.take i).filter p).map g) → G' Dd = none → ∃ ρ', f d (pick caps ρ) = some ρ' ∧
      WTail (compCx X Nc scope C s' H' fp) ρ' (put G' Dd (.lst acc)) (testT c elt (compCx X Nc scope C s' H' fp).env (.ref Dd)) fun G'' => ∃ acc' G4, acc'.length ≤ acc.length + 1 ∧ G4 Dd = none ∧ G'' = put G4 Dd (.lst acc') ∧ (G4 = G ∧ acc' = ((l.take (i + 1)).filter p).map g) := by
  rintro C s' H' fp Dd i d acc G' hd ⟨rfl, rfl⟩ hD
  obtain ⟨ρ', h1, h2, h3⟩ := hstep C s' H' fp (put G' Dd (.lst (((l.take i).filter p).map g))) d (List.mem_of_getElem? hd) (kn_put hD)
  have et : (l.take (i + 1)).filter p = (l.take i).filter p ++ (if p d = true then [d] else []) := by
    rw [List.take_add_one, hd, List.filter_append]
    simp only [Option.toList_some, List.filter_cons, List.filter_nil]
  refine ⟨ρ', h1, wtail_test rfl (pxt_mono h2 ⟨fun hp => ?_, fun hp => ?_⟩)⟩
  · refine wtail_emit rfl put_same ?_ (PX.we (h3 hp) ⟨put_same, _, G', ?_, hD, put_put, rfl, ?_⟩)
    · have : (((l.take i).filter p).map g).length ≤ l.length := by
        rw [List.length_map]
        exact Nat.le_trans (List.length_filter_le _ _) (by rw [List.length_take]; omega)
      exact Nat.lt_of_le_of_lt (Nat.le_trans this hz) (by decide)
    · simp
    · rw [et, if_pos hp]; simp
  · refine ⟨_, G', ?_, hD, rfl, rfl, ?_⟩
    · simp
    · rw [et, if_neg (by rw [hp]; decide)]; simp
theorem px_compM (g : Dat → Dat) (Sc : CompSc X scope Nc caps) (hcalm : X.calm = true) (hi : WI X ρ G target iter fun l' G' => l' = l ∧ G' = G)
    (hg : ∀ C s' H' fp, PGD (compCx X Nc scope C s' H' fp) target f) (hle : ∀ d ρ', f d (pick caps ρ) = some ρ' → ρ'.length = (pick caps ρ).length ∧ ∀ (j : Nat) e, (pick caps ρ)[j]? = some (some e) → ρ'[j]? = some (some e)) (hz : l.length ≤ 5000)
    (hstep : ∀ C s' H' fp G' d, d ∈ l → Kn G G' → ∃ ρ', f d (pick caps ρ) = some ρ' ∧ PX (compCx X Nc scope C s' H' fp) ρ' G' elt (g d)) (hfs : ∀ x, foldedSetIterable iter X.env x = pure x := by intro _; rfl) :
    PX X ρ G (.ListComp elt [⟨target, iter, [], 0⟩] scope cpos) (.lst (l.map g)) :=
  we_comp (Pv := fun i acc G' => G' = G ∧ acc = (l.take i).map g) (turnIs_0 elt target iter scope cpos) Sc hcalm (wi_pv (Pv := fun i acc G' => G' = G ∧ acc = (l.take i).map g) hi ⟨rfl, by simp⟩) hg hle (Nat.le_trans hz (by decide)) (step_map g hz hstep) (by
    rintro acc G' ⟨rfl, rfl⟩
    rw [List.take_length]
    exact ⟨rfl, rfl⟩) hfs
theorem px_compF (p : Dat → Bool) (g : Dat → Dat) (Sc : CompSc X scope Nc caps) (hcalm : X.calm = true) (hi : WI X ρ G target iter fun l' G' => l' = l ∧ G' = G)
    (hg : ∀ C s' H' fp, PGD (compCx X Nc scope C s' H' fp) target f) (hle : ∀ d ρ', f d (pick caps ρ) = some ρ' → ρ'.length = (pick caps ρ).length ∧ ∀ (j : Nat) e, (pick caps ρ)[j]? = some (some e) → ρ'[j]? = some (some e)) (hz : l.length ≤ 5000)
    (hstep : ∀ C s' H' fp G' d, d ∈ l → Kn G G' → ∃ ρ', f d (pick caps ρ) = some ρ' ∧ PXT (compCx X Nc scope C s' H' fp) ρ' G' c (p d) ∧ (p d = true → PX (compCx X Nc scope C s' H' fp) ρ' G' elt (g d))) (hfs : ∀ x, foldedSetIterable iter X.env x = pure x := by intro _; rfl) :
    PX X ρ G (.ListComp elt [⟨target, iter, [c], 0⟩] scope cpos) (.lst ((l.filter p).map g)) :=
  we_comp (Pv := fun i acc G' => G' = G ∧ acc = ((l.take i).filter p).map g) (turnIs_1 elt target iter c scope cpos) Sc hcalm (wi_pv (Pv := fun i acc G' => G' = G ∧ acc = ((l.take i).filter p).map g) hi ⟨rfl, by simp⟩) hg hle (Nat.le_trans hz (by decide)) (step_fil p g hz hstep) (by
    rintro acc G' ⟨rfl, rfl⟩
    rw [List.take_length]
    exact ⟨rfl, rfl⟩) hfs
theorem wss_setM (n : Nat) {x : Str} (g : Dat → Dat) (hN : X.N.Nodup) (Sc : CompSc X scope Nc caps) (hcalm : X.calm = true) (hi : WI X ρ G target iter fun l' G' => l' = l ∧ G' = G)
    (hg : ∀ C s' H' fp, PGD (compCx X Nc scope C s' H' fp) target f) (hle : ∀ d ρ', f d (pick caps ρ) = some ρ' → ρ'.length = (pick caps ρ).length ∧ ∀ (j : Nat) e, (pick caps ρ)[j]? = some (some e) → ρ'[j]? = some (some e)) (hz : l.length ≤ 5000)
    (hstep : ∀ C s' H' fp G' d, d ∈ l → Kn G G' → ∃ ρ', f d (pick caps ρ) = some ρ' ∧ PX (compCx X Nc scope C s' H' fp) ρ' G' elt (g d))
    (q : WSs X (ρ.set n (some (.lst (l.map g)))) G rest D) (hn : X.N[n]? = some x := by rfl) (hx : X.env.kindOf x = some .local := by rfl) (hsw : swapsWith (.ListComp elt [⟨target, iter, [], 0⟩] scope cpos) (some (.Name x pos')) pos.line X.env = pure true := by rfl)
    (hfs : ∀ x, foldedSetIterable iter X.env x = pure x := by intro _; rfl) : WSs X ρ G (.Assign [.Name x pos'] (.ListComp elt [⟨target, iter, [], 0⟩] scope cpos) pos :: rest) D :=
  wss_setComp n (fun i acc G' => G' = G ∧ acc = (l.take i).map g) hN (turnIs_0 elt target iter scope cpos) Sc hcalm (wi_pv (Pv := fun i acc G' => G' = G ∧ acc = (l.take i).map g) hi ⟨rfl, by simp⟩) hg hle (Nat.le_trans hz (by decide)) (step_map g hz hstep) (by
    rintro acc G' ⟨rfl, rfl⟩
    rw [List.take_length]
    exact q) hn hx hsw hfs
theorem wss_setF (n : Nat) {x : Str} (p : Dat → Bool) (g : Dat → Dat) (hN : X.N.Nodup) (Sc : CompSc X scope Nc caps) (hcalm : X.calm = true) (hi : WI X ρ G target iter fun l' G' => l' = l ∧ G' = G)
    (hg : ∀ C s' H' fp, PGD (compCx X Nc scope C s' H' fp) target f) (hle : ∀ d ρ', f d (pick caps ρ) = some ρ' → ρ'.length = (pick caps ρ).length ∧ ∀ (j : Nat) e, (pick caps ρ)[j]? = some (some e) → ρ'[j]? = some (some e)) (hz : l.length ≤ 5000)
    (hstep : ∀ C s' H' fp G' d, d ∈ l → Kn G G' → ∃ ρ', f d (pick caps ρ) = some ρ' ∧ PXT (compCx X Nc scope C s' H' fp) ρ' G' c (p d) ∧ (p d = true → PX (compCx X Nc scope C s' H' fp) ρ' G' elt (g d)))
    (q : WSs X (ρ.set n (some (.lst ((l.filter p).map g)))) G rest D) (hn : X.N[n]? = some x := by rfl) (hx : X.env.kindOf x = some .local := by rfl) (hsw : swapsWith (.ListComp elt [⟨target, iter, [c], 0⟩] scope cpos) (some (.Name x pos')) pos.line X.env = pure true := by rfl)
    (hfs : ∀ x, foldedSetIterable iter X.env x = pure x := by intro _; rfl) : WSs X ρ G (.Assign [.Name x pos'] (.ListComp elt [⟨target, iter, [c], 0⟩] scope cpos) pos :: rest) D :=
  wss_setComp n (fun i acc G' => G' = G ∧ acc = ((l.take i).filter p).map g) hN (turnIs_1 elt target iter c scope cpos) Sc hcalm (wi_pv (Pv := fun i acc G' => G' = G ∧ acc = ((l.take i).filter p).map g) hi ⟨rfl, by simp⟩) hg hle (Nat.le_trans hz (by decide)) (step_fil p g hz hstep) (by
    rintro acc G' ⟨rfl, rfl⟩
    rw [List.take_length]
    exact q) hn hx hsw hfs
end
end TF
set_option Elab.async false
set_option linter.all false
set_option maxRecDepth 100000
set_option maxHeartbeats 4000000
/-! Floors: what a floor is, rectangles, what the draw of a floor needs -/
namespace TF
open PySem PySem.Spec L2
open PyProof.Rows hiding St RelV
def sqLt (p q : Sq) : Prop := p.1 < q.1 ∨ (p.1 = q.1 ∧ p.2 < q.2)
instance (p q : Sq) : Decidable (sqLt p q) := by unfold sqLt; infer_instance
theorem sqLt_irrefl (p : Sq) : ¬ sqLt p p := by unfold sqLt; omega
theorem sqLt_trans {p q r : Sq} (h : sqLt p q) (h' : sqLt q r) : sqLt p r := by unfold sqLt at *; omega
theorem sqLt_tri (p q : Sq) : sqLt p q ∨ p = q ∨ sqLt q p := by
  obtain ⟨a, b⟩ := p
  obtain ⟨c, d⟩ := q
  unfold sqLt
  simp only [Prod.mk.injEq]
  omega
structure Good (F : List Sq) : Prop where
  ne : F ≠ []
  up : F.Pairwise sqLt
  inn : ∀ p ∈ F, 0 ≤ p.1 ∧ p.1 ≤ 7 ∧ 0 ≤ p.2 ∧ p.2 ≤ 7
  len : F.length ≤ 24
theorem Good.nodup {F : List Sq} (h : Good F) : F.Nodup := h.up.imp fun {a b} hab e => by subst e; exact sqLt_irrefl _ hab
def rect (r w d e : Nat) : List Sq := (List.range r).flatMap fun i => (List.range w).map fun j => (((d + i : Nat) : Int), ((e + j : Nat) : Int))
theorem rect_len (r w d e : Nat) : (rect r w d e).length = r * w := by
  unfold rect
  induction r with
  | zero => simp
  | succ r ih => rw [List.range_succ, List.flatMap_append, List.length_append, ih]; simp [Nat.succ_mul]
theorem mem_rect {r w d e : Nat} {p : Sq} : p ∈ rect r w d e ↔ ∃ i j : Nat, i < r ∧ j < w ∧ p = (((d + i : Nat) : Int), ((e + j : Nat) : Int)) := by
  unfold rect
  simp only [List.mem_flatMap, List.mem_map, List.mem_range]
  constructor
  · rintro ⟨i, hi, j, hj, rfl⟩; exact ⟨i, j, hi, hj, rfl⟩
  · rintro ⟨i, j, hi, hj, rfl⟩; exact ⟨i, hi, j, hj, rfl⟩
theorem rect_succ (i w d e : Nat) : rect (i + 1) w d e = rect i w d e ++ (List.range w).map fun j => (((d + i : Nat) : Int), ((e + j : Nat) : Int)) := by
  unfold rect
  rw [List.range_succ, List.flatMap_append]
  simp
theorem rect_up (r w d e : Nat) : (rect r w d e).Pairwise sqLt := by
  induction r with
  | zero => exact List.Pairwise.nil
  | succ r ih =>
    rw [rect_succ, List.pairwise_append]
    refine ⟨ih, ?_, fun p hp q hq => ?_⟩
    · rw [List.pairwise_map]
      refine List.Pairwise.imp (fun {a b} h => ?_) List.pairwise_lt_range
      exact .inr ⟨rfl, by show ((e + a : Nat) : Int) < ((e + b : Nat) : Int); omega⟩
    · obtain ⟨i, j, hi, hj, rfl⟩ := mem_rect.mp hp
      obtain ⟨j', _, rfl⟩ := List.mem_map.mp hq
      exact .inl (by show ((d + i : Nat) : Int) < ((d + r : Nat) : Int); omega)
theorem good_sub {r w d e : Nat} (h1 : r * w ≤ 24) (h2 : d + r ≤ 8) (h3 : e + w ≤ 8) {F : List Sq} (hs : F.Sublist (rect r w d e)) (hne : F ≠ []) : Good F := by
  refine ⟨hne, (rect_up r w d e).sublist hs, fun p hp => ?_, ?_⟩
  · obtain ⟨i, j, hi, hj, rfl⟩ := mem_rect.mp (hs.subset hp)
    show 0 ≤ ((d + i : Nat) : Int) ∧ ((d + i : Nat) : Int) ≤ 7 ∧ 0 ≤ ((e + j : Nat) : Int) ∧ ((e + j : Nat) : Int) ≤ 7
    omega
  · exact Nat.le_trans hs.length_le (by rw [rect_len]; exact h1)
def ShapeOk (r w : Nat) : Prop := (1 ≤ r ∧ r ≤ 4 ∧ 1 ≤ w ∧ w ≤ 5) ∨ (r = 2 ∧ w = 12) ∨ (r = 3 ∧ w = 8) ∨ (r = 8 ∧ w = 3) ∨ (r = 6 ∧ w = 4)
theorem shape_mul {r w : Nat} (h : ShapeOk r w) : r * min w 8 ≤ 24 ∧ 0 < r * min w 8 := by
  rcases h with ⟨h1, h2, h3, h4⟩ | ⟨rfl, rfl⟩ | ⟨rfl, rfl⟩ | ⟨rfl, rfl⟩ | ⟨rfl, rfl⟩
  · have : min w 8 = w := by omega
    rw [this]
    exact ⟨Nat.le_trans (Nat.mul_le_mul h2 h4) (by decide), Nat.mul_pos h1 h3⟩
  all_goals decide
def mixI (c p m : Int) : Int := c * 48271 % p % m
theorem mix_nat (c p : Int) (m : Nat) (hm : 0 < m) : ∃ r : Nat, r < m ∧ mixI c p (m : Int) = (r : Int) := by
  refine ⟨(mixI c p m).toNat, ?_, ?_⟩
  · have := Int.emod_lt_of_pos (c * 48271 % p) (show (0 : Int) < m by omega)
    have := Int.emod_nonneg (c * 48271 % p) (show (m : Int) ≠ 0 by omega)
    unfold mixI; omega
  · have := Int.emod_nonneg (c * 48271 % p) (show (m : Int) ≠ 0 by omega)
    unfold mixI; omega
theorem fil_sq (L : List Sq) (p : Dat → Bool) : ((L.map sq).filter p).map id = (L.filter fun q => p (sq q)).map sq := by
  rw [List.map_id, List.filter_map]
  rfl
theorem sz {n : Nat} (h : n ≤ 5000) : n ≤ sizeLine := Nat.le_trans h (by decide)
theorem sz1 {n : Nat} (h : n ≤ 5000) : n < sizeLine := Nat.lt_of_le_of_lt h (by decide)
theorem rangeD_len (i : Int) (n : Nat) : (rangeD i n).length = n := by simp [rangeD]
theorem rangeD_get {lo : Int} {n i : Nat} {d : Dat} (h : (rangeD lo n)[i]? = some d) : i < n ∧ d = .int (lo + (i : Nat)) := by
  have hlt : i < n := by
    have := (List.getElem?_eq_some_iff.mp h).1
    simpa [rangeD] using this
  have : (rangeD lo n)[i]? = some (.int (lo + i)) := by simp [rangeD, hlt]
  rw [this] at h; cases h; exact ⟨hlt, rfl⟩
theorem rangeD_mem {lo : Int} {n : Nat} {d : Dat} (h : d ∈ rangeD lo n) : ∃ i : Nat, i < n ∧ d = .int (lo + (i : Nat)) := by
  obtain ⟨i, hi⟩ := List.mem_iff_getElem?.mp h
  exact ⟨i, rangeD_get hi⟩
def spCell : SpD := fun ds G R => ∃ (ns : List Int) (k : Nat), ds = [.scr ns, .int k] ∧ R (.int (cellN ns k)) G
def spMix : SpD := fun ds G R => ∃ (c p m : Int), ds = [.int c, .int p, .int m] ∧ 0 < p ∧ 0 < m ∧ R (.int (mixI c p m)) G
def spFloor : SpD := fun ds G R => ∃ (ns : List Int) (k : Nat), ds = [.scr ns, .int k] ∧ ∀ F, Good F → R (fl F) G
end TF
set_option Elab.async false
set_option linter.all false
set_option maxRecDepth 100000
set_option maxHeartbeats 4000000
/-! What is reached over a ground; counts of it -/
namespace TF
theorem nodup_le {α : Type} [DecidableEq α] : ∀ {l m : List α}, l.Nodup → (∀ x ∈ l, x ∈ m) → l.length ≤ m.length
  | [], _, _, _ => Nat.zero_le _
  | a :: r, m, hn, hs => by
    obtain ⟨h1, h2⟩ := List.nodup_cons.mp hn
    have ha := hs a (List.mem_cons_self ..)
    have : r.length ≤ (m.erase a).length := nodup_le h2 fun x hx => by
      have hne : x ≠ a := by rintro rfl; exact h1 hx
      exact (List.mem_erase_of_ne hne).mpr (hs x (List.mem_cons_of_mem _ hx))
    rw [List.length_erase_of_mem ha] at this
    have hp : 0 < m.length := List.length_pos_of_mem ha
    rw [List.length_cons]; omega
theorem nodup_len {α : Type} [DecidableEq α] {l m : List α} (h1 : l.Nodup) (h2 : m.Nodup) (h : ∀ x, x ∈ l ↔ x ∈ m) : l.length = m.length :=
  Nat.le_antisymm (nodup_le h1 fun x hx => (h x).mp hx) (nodup_le h2 fun x hx => (h x).mpr hx)
/-- a nodup list that is as long as one that holds it has all of it -/
theorem nodup_all {α : Type} [DecidableEq α] {l m : List α} (h1 : l.Nodup) (hs : ∀ x ∈ l, x ∈ m) (hl : m.length ≤ l.length) (hm : m.Nodup) : ∀ x ∈ m, x ∈ l := by
  intro x hx
  refine Classical.byContradiction fun hn => ?_
  have : l.length ≤ (m.erase x).length := nodup_le h1 fun y hy => (List.mem_erase_of_ne (by rintro rfl; exact hn hy)).mpr (hs y hy)
  rw [List.length_erase_of_mem hx] at this
  have hp : 0 < m.length := List.length_pos_of_mem hx
  omega
inductive Con (R : Sq → Sq → Prop) (g : Sq → Prop) (s : Sq) : Sq → Prop
  | base : Con R g s s
  | step {x y : Sq} : Con R g s x → R x y → g y → Con R g s y
section
variable {R R' : Sq → Sq → Prop} {g g' : Sq → Prop} {s x y : Sq}
theorem Con.trans (h : Con R g s x) (h' : Con R g x y) : Con R g s y := by
  induction h' with
  | base => exact h
  | step _ r gy ih => exact .step ih r gy
theorem Con.mono (hR : ∀ x y, R x y → R' x y) (hg : ∀ x, g x → g' x) (h : Con R g s x) : Con R' g' s x := by
  induction h with
  | base => exact .base
  | step _ r gy ih => exact .step ih (hR _ _ r) (hg _ gy)
theorem Con.in (h : Con R g s x) (hs : g s) : g x := by
  cases h with
  | base => exact hs
  | step _ _ gy => exact gy
theorem Con.symm (hR : ∀ x y, R x y → R y x) (hs : g s) (h : Con R g s x) : Con R g x s := by
  induction h with
  | base => exact .base
  | @step x y hx r gy ih => exact Con.trans (.step .base (hR _ _ r) (hx.in hs)) ih
end
structure RL (R : Sq → Sq → Prop) (g : Sq → Prop) (s : Sq) (L : List Sq) : Prop where
  nd : L.Nodup
  iff : ∀ x, x ∈ L ↔ Con R g s x
open Classical in
noncomputable def card (R : Sq → Sq → Prop) (g : Sq → Prop) (s : Sq) : Nat := if h : ∃ L, RL R g s L then (Classical.choose h).length else 0
theorem RL.card {R : Sq → Sq → Prop} {g : Sq → Prop} {s : Sq} {L : List Sq} (h : RL R g s L) : card R g s = L.length := by
  have hx : ∃ L, RL R g s L := ⟨L, h⟩
  unfold TF.card
  rw [dif_pos hx]
  have h' := Classical.choose_spec hx
  exact nodup_len h'.nd h.nd fun x => (h'.iff x).trans (h.iff x).symm
/-- all of a ground is reached just where as many are reached as it has -/
theorem RL.all {R : Sq → Sq → Prop} {g : Sq → Prop} {s : Sq} {L B : List Sq} (h : RL R g s L) (hB : B.Nodup) (hg : ∀ x, x ∈ B ↔ g x) (hs : g s) : L.length ≤ B.length ∧ (L.length = B.length ↔ ∀ x, g x → Con R g s x) := by
  have sub : ∀ x ∈ L, x ∈ B := fun x hx => (hg x).mpr (((h.iff x).mp hx).in hs)
  have le := nodup_le h.nd sub
  refine ⟨le, fun e x hx => (h.iff x).mp (nodup_all h.nd sub (by omega) hB x ((hg x).mpr hx)), fun a => ?_⟩
  exact Nat.le_antisymm le (nodup_le hB fun x hx => (h.iff x).mpr (a x ((hg x).mp hx)))
def nbM (q : Sq) : List Sq := [(q.1 - 1, q.2), (q.1, q.2 - 1), (q.1, q.2 + 1), (q.1 + 1, q.2)]
def cnM (q : Sq) : List Sq := [(q.1 - 1, q.2 - 1), (q.1 - 1, q.2 + 1), (q.1 + 1, q.2 - 1), (q.1 + 1, q.2 + 1)]
def aaM (q : Sq) : List Sq := nbM q ++ cnM q
def n9 (q : Sq) : List Sq := (List.range 9).map fun k => (q.1 + ((k / 3 : Nat) : Int) - 1, q.2 + ((k % 3 : Nat) : Int) - 1)
def Adj (p q : Sq) : Prop := p.1 - 1 ≤ q.1 ∧ q.1 ≤ p.1 + 1 ∧ p.2 - 1 ≤ q.2 ∧ q.2 ≤ p.2 + 1
theorem adj_symm (p q : Sq) (h : Adj p q) : Adj q p := by unfold Adj at *; omega
theorem aa_adj {p q : Sq} : q ∈ aaM p ↔ Adj p q ∧ q ≠ p := by
  obtain ⟨a, b⟩ := p
  obtain ⟨c, d⟩ := q
  simp only [aaM, nbM, cnM, List.cons_append, List.nil_append, List.mem_cons, List.not_mem_nil, or_false, Prod.mk.injEq, Adj, ne_eq]
  omega
theorem n9_adj {p q : Sq} : q ∈ n9 p ↔ Adj p q := by
  obtain ⟨a, b⟩ := p
  obtain ⟨c, d⟩ := q
  have : n9 (a, b) = [(a - 1, b - 1), (a - 1, b), (a - 1, b + 1), (a, b - 1), (a, b), (a, b + 1), (a + 1, b - 1), (a + 1, b), (a + 1, b + 1)] := by
    simp only [n9, List.range, List.range.loop, List.map_cons, List.map_nil]
    simp only [Nat.reduceDiv, Nat.reduceMod, List.cons.injEq, Prod.mk.injEq, and_true]
    omega
  rw [this]
  simp only [List.mem_cons, List.not_mem_nil, or_false, Prod.mk.injEq, Adj]
  omega
theorem con_aa {g : Sq → Prop} {s x : Sq} : Con (fun p q => q ∈ aaM p) g s x ↔ Con Adj g s x := by
  constructor
  · exact Con.mono (fun x y h => (aa_adj.mp h).1) fun _ h => h
  · intro h
    induction h with
    | base => exact .base
    | @step x y _ r gy ih =>
      by_cases e : y = x
      · subst e; exact ih
      · exact .step ih (aa_adj.mpr ⟨r, e⟩) gy
theorem con_9 {g : Sq → Prop} {s x : Sq} : Con (fun p q => q ∈ n9 p) g s x ↔ Con Adj g s x :=
  ⟨Con.mono (fun x y h => n9_adj.mp h) fun _ h => h, Con.mono (fun x y h => n9_adj.mpr h) fun _ h => h⟩
structure BB (F : List Sq) (r0 r1 c0 c1 : Int) : Prop where
  r0m : r0 ∈ F.map (·.1)
  r0l : ∀ a ∈ F.map (·.1), r0 ≤ a
  r1m : r1 ∈ F.map (·.1)
  r1l : ∀ a ∈ F.map (·.1), a ≤ r1
  c0m : c0 ∈ F.map (·.2)
  c0l : ∀ a ∈ F.map (·.2), c0 ≤ a
  c1m : c1 ∈ F.map (·.2)
  c1l : ∀ a ∈ F.map (·.2), a ≤ c1
theorem exMin : ∀ (l : List Int), l ≠ [] → ∃ m ∈ l, ∀ a ∈ l, m ≤ a
  | [a], _ => ⟨a, by simp, by simp⟩
  | a :: b :: r, _ => by
    obtain ⟨m, h1, h2⟩ := exMin (b :: r) (by simp)
    by_cases h : a ≤ m
    · exact ⟨a, List.mem_cons_self .., fun x hx => by rcases List.mem_cons.mp hx with rfl | hx; exact Int.le_refl _; exact Int.le_trans h (h2 x hx)⟩
    · exact ⟨m, List.mem_cons_of_mem _ h1, fun x hx => by rcases List.mem_cons.mp hx with rfl | hx; omega; exact h2 x hx⟩
theorem exMax : ∀ (l : List Int), l ≠ [] → ∃ m ∈ l, ∀ a ∈ l, a ≤ m
  | [a], _ => ⟨a, by simp, by simp⟩
  | a :: b :: r, _ => by
    obtain ⟨m, h1, h2⟩ := exMax (b :: r) (by simp)
    by_cases h : m ≤ a
    · exact ⟨a, List.mem_cons_self .., fun x hx => by rcases List.mem_cons.mp hx with rfl | hx; exact Int.le_refl _; exact Int.le_trans (h2 x hx) h⟩
    · exact ⟨m, List.mem_cons_of_mem _ h1, fun x hx => by rcases List.mem_cons.mp hx with rfl | hx; omega; exact h2 x hx⟩
theorem exBB {F : List Sq} (h : F ≠ []) : ∃ r0 r1 c0 c1, BB F r0 r1 c0 c1 := by
  obtain ⟨r0, a1, a2⟩ := exMin (F.map (·.1)) (by simpa using h)
  obtain ⟨r1, b1, b2⟩ := exMax (F.map (·.1)) (by simpa using h)
  obtain ⟨c0, d1, d2⟩ := exMin (F.map (·.2)) (by simpa using h)
  obtain ⟨c1, e1, e2⟩ := exMax (F.map (·.2)) (by simpa using h)
  exact ⟨r0, r1, c0, c1, a1, a2, b1, b2, d1, d2, e1, e2⟩
theorem BB.in {F : List Sq} {r0 r1 c0 c1 : Int} (b : BB F r0 r1 c0 c1) {p : Sq} (h : p ∈ F) : r0 ≤ p.1 ∧ p.1 ≤ r1 ∧ c0 ≤ p.2 ∧ p.2 ≤ c1 :=
  ⟨b.r0l _ (List.mem_map_of_mem h), b.r1l _ (List.mem_map_of_mem h), b.c0l _ (List.mem_map_of_mem h), b.c1l _ (List.mem_map_of_mem h)⟩
/-- the rectangle from (a, b) on, row by row -/
def boxL (a b : Int) (m n : Nat) : List Sq := (List.range m).flatMap fun i => (List.range n).map fun j => (a + (i : Nat), b + (j : Nat))
theorem mem_box {a b : Int} {m n : Nat} {p : Sq} : p ∈ boxL a b m n ↔ a ≤ p.1 ∧ p.1 < a + m ∧ b ≤ p.2 ∧ p.2 < b + n := by
  unfold boxL
  simp only [List.mem_flatMap, List.mem_map, List.mem_range]
  constructor
  · rintro ⟨i, hi, j, hj, rfl⟩
    show a ≤ a + (i : Int) ∧ a + (i : Int) < a + m ∧ b ≤ b + (j : Int) ∧ b + (j : Int) < b + n
    omega
  · rintro ⟨h1, h2, h3, h4⟩
    refine ⟨(p.1 - a).toNat, by omega, (p.2 - b).toNat, by omega, ?_⟩
    obtain ⟨x, y⟩ := p
    simp only [Prod.mk.injEq] at *
    omega
theorem box_succ (a b : Int) (m n : Nat) : boxL a b (m + 1) n = boxL a b m n ++ (List.range n).map fun j => (a + (m : Nat), b + (j : Nat)) := by
  unfold boxL
  rw [List.range_succ, List.flatMap_append]
  simp
theorem box_up (a b : Int) (m n : Nat) : (boxL a b m n).Pairwise sqLt := by
  induction m with
  | zero => exact List.Pairwise.nil
  | succ m ih =>
    rw [box_succ, List.pairwise_append]
    refine ⟨ih, ?_, fun p hp q hq => ?_⟩
    · rw [List.pairwise_map]
      refine List.Pairwise.imp (fun {x y} h => ?_) List.pairwise_lt_range
      exact .inr ⟨rfl, by show b + ((x : Nat) : Int) < b + ((y : Nat) : Int); omega⟩
    · have := (mem_box.mp hp).2.1
      obtain ⟨j', _, rfl⟩ := List.mem_map.mp hq
      exact .inl (by show p.1 < a + (m : Int); omega)
theorem up_nodup {L : List Sq} (h : L.Pairwise sqLt) : L.Nodup := h.imp fun {a b} hab e => by subst e; exact sqLt_irrefl _ hab
theorem box_len (a b : Int) (m n : Nat) : (boxL a b m n).length = m * n := by
  induction m with
  | zero => simp [boxL]
  | succ m ih => rw [box_succ, List.length_append, ih]; simp [Nat.succ_mul]
/-- bare squares of the box one line around -/
def bareL (F : List Sq) (r0 r1 c0 c1 : Int) : List Sq := (boxL (r0 - 1) (c0 - 1) (r1 + 2 - (r0 - 1)).toNat (c1 + 2 - (c0 - 1)).toNat).filter fun q => !F.contains q
section
variable {F : List Sq} {r0 r1 c0 c1 : Int}
def g1 (F : List Sq) (r0 r1 c0 c1 : Int) (p : Sq) : Prop := (r0 - 1 ≤ p.1 ∧ p.1 ≤ r1 + 1 ∧ c0 - 1 ≤ p.2 ∧ p.2 ≤ c1 + 1) ∧ p ∉ F
def g2 (F : List Sq) (p : Sq) : Prop := (-1 ≤ p.1 ∧ p.1 ≤ 8 ∧ -1 ≤ p.2 ∧ p.2 ≤ 8) ∧ p ∉ F
theorem BB.le (b : BB F r0 r1 c0 c1) : r0 ≤ r1 ∧ c0 ≤ c1 := ⟨b.r0l _ b.r1m, b.c0l _ b.c1m⟩
theorem mem_bare (b : BB F r0 r1 c0 c1) (p : Sq) : p ∈ bareL F r0 r1 c0 c1 ↔ g1 F r0 r1 c0 c1 p := by
  obtain ⟨h1, h2⟩ := b.le
  unfold bareL g1
  rw [List.mem_filter, mem_box]
  simp only [Bool.not_eq_true', List.contains_eq_mem, decide_eq_false_iff_not]
  constructor
  · rintro ⟨h, h'⟩; exact ⟨by omega, h'⟩
  · rintro ⟨h, h'⟩; exact ⟨by omega, h'⟩
theorem bare_nodup : (bareL F r0 r1 c0 c1).Nodup := up_nodup ((box_up _ _ _ _).sublist List.filter_sublist)
def kap (r0 r1 c0 c1 : Int) (p : Sq) : Sq := (max (r0 - 1) (min p.1 (r1 + 1)), max (c0 - 1) (min p.2 (c1 + 1)))
theorem kap_g1 (b : BB F r0 r1 c0 c1) {p : Sq} (h : p ∉ F) : g1 F r0 r1 c0 c1 (kap r0 r1 c0 c1 p) := by
  obtain ⟨h1, h2⟩ := b.le
  refine ⟨?_, fun hk => ?_⟩
  · simp only [kap]; omega
  · have := b.in hk
    have e : kap r0 r1 c0 c1 p = p := by
      obtain ⟨x, y⟩ := p
      simp only [kap, Prod.mk.injEq] at *
      omega
    rw [e] at hk
    exact h hk
theorem con12 (b : BB F r0 r1 c0 c1) (gd : Good F) : (∀ x, g2 F x → Con Adj (g2 F) (-1, -1) x) → ∀ x, g1 F r0 r1 c0 c1 x → Con Adj (g1 F r0 r1 c0 c1) (r0 - 1, c0 - 1) x := by
  intro Q x hx
  obtain ⟨h1, h2⟩ := b.le
  have e0 := gd.inn
  have mr : ∀ a ∈ F.map (·.1), 0 ≤ a ∧ a ≤ 7 := fun a ha => by obtain ⟨p, hp, rfl⟩ := List.mem_map.mp ha; have := e0 p hp; omega
  have mc : ∀ a ∈ F.map (·.2), 0 ≤ a ∧ a ≤ 7 := fun a ha => by obtain ⟨p, hp, rfl⟩ := List.mem_map.mp ha; have := e0 p hp; omega
  have b1 := mr _ b.r0m
  have b2 := mr _ b.r1m
  have b3 := mc _ b.c0m
  have b4 := mc _ b.c1m
  have key : ∀ y, Con Adj (g2 F) (-1, -1) y → Con Adj (g1 F r0 r1 c0 c1) (r0 - 1, c0 - 1) (kap r0 r1 c0 c1 y) := by
    intro y hy
    induction hy with
    | base =>
      have : kap r0 r1 c0 c1 (-1, -1) = (r0 - 1, c0 - 1) := by simp only [kap, Prod.mk.injEq]; omega
      rw [this]; exact .base
    | @step x y _ r gy ih =>
      refine .step ih ?_ (kap_g1 b gy.2)
      unfold Adj kap at *
      dsimp only
      omega
  have := key x (Q x ⟨by have := hx.1; omega, hx.2⟩)
  have e : kap r0 r1 c0 c1 x = x := by
    have := hx.1
    obtain ⟨a, b⟩ := x
    simp only [kap, Prod.mk.injEq] at *
    omega
  rw [e] at this
  exact this
theorem con21 (b : BB F r0 r1 c0 c1) (gd : Good F) : (∀ x, g1 F r0 r1 c0 c1 x → Con Adj (g1 F r0 r1 c0 c1) (r0 - 1, c0 - 1) x) → ∀ x, g2 F x → Con Adj (g2 F) (-1, -1) x := by
  intro P
  obtain ⟨h1, h2⟩ := b.le
  have e0 := gd.inn
  have mr : ∀ a ∈ F.map (·.1), 0 ≤ a ∧ a ≤ 7 := fun a ha => by obtain ⟨p, hp, rfl⟩ := List.mem_map.mp ha; have := e0 p hp; omega
  have mc : ∀ a ∈ F.map (·.2), 0 ≤ a ∧ a ≤ 7 := fun a ha => by obtain ⟨p, hp, rfl⟩ := List.mem_map.mp ha; have := e0 p hp; omega
  have b1 := mr _ b.r0m
  have b2 := mr _ b.r1m
  have b3 := mc _ b.c0m
  have b4 := mc _ b.c1m
  have sub : ∀ x, g1 F r0 r1 c0 c1 x → g2 F x := fun x hx => ⟨by have := hx.1; omega, hx.2⟩
  have line : ∀ (n : Nat) (y : Sq), g2 F y → (y.1 - (kap r0 r1 c0 c1 y).1).natAbs + (y.2 - (kap r0 r1 c0 c1 y).2).natAbs ≤ n → Con Adj (g2 F) (kap r0 r1 c0 c1 y) y := by
    intro n
    induction n with
    | zero =>
      intro y hy hn
      have : kap r0 r1 c0 c1 y = y := by
        obtain ⟨p, q⟩ := y
        simp only [kap, Prod.mk.injEq] at *
        omega
      rw [this]; exact .base
    | succ n ih =>
      intro y hy hn
      by_cases e : kap r0 r1 c0 c1 y = y
      · rw [e]; exact .base
      · obtain ⟨p, q⟩ := y
        let p' := if p < r0 - 1 then p + 1 else if r1 + 1 < p then p - 1 else p
        let q' := if q < c0 - 1 then q + 1 else if c1 + 1 < q then q - 1 else q
        have hp' : p' = if p < r0 - 1 then p + 1 else if r1 + 1 < p then p - 1 else p := rfl
        have hq' : q' = if q < c0 - 1 then q + 1 else if c1 + 1 < q then q - 1 else q := rfl
        have hb := hy.1
        have ek : kap r0 r1 c0 c1 (p', q') = kap r0 r1 c0 c1 (p, q) := by
          simp only [kap, Prod.mk.injEq] at *
          split at hp' <;> split at hq' <;> (try split at hp') <;> (try split at hq') <;> omega
        have hout : ¬ (r0 - 1 ≤ p ∧ p ≤ r1 + 1 ∧ c0 - 1 ≤ q ∧ q ≤ c1 + 1) := fun z => e (by simp only [kap, Prod.mk.injEq]; omega)
        have hg : g2 F (p', q') := by
          refine ⟨?_, fun hm => ?_⟩
          · simp only at *
            split at hp' <;> split at hq' <;> (try split at hp') <;> (try split at hq') <;> omega
          · have := b.in hm
            simp only at *
            split at hp' <;> split at hq' <;> (try split at hp') <;> (try split at hq') <;> omega
        have := ih (p', q') hg (by
          rw [ek]
          simp only [kap] at *
          split at hp' <;> split at hq' <;> (try split at hp') <;> (try split at hq') <;> omega)
        rw [ek] at this
        refine .step this ?_ hy
        unfold Adj
        simp only
        split at hp' <;> split at hq' <;> (try split at hp') <;> (try split at hq') <;> omega
  have m1 : g2 F (-1, -1) := ⟨by decide, fun hm => by have := e0 _ hm; simp at this⟩
  have k0 : kap r0 r1 c0 c1 (-1, -1) = (r0 - 1, c0 - 1) := by simp only [kap, Prod.mk.injEq]; omega
  have c0' := line _ _ m1 (Nat.le_refl _)
  rw [k0] at c0'
  have gb : g2 F (r0 - 1, c0 - 1) := by
    have := kap_g1 b m1.2
    rw [k0] at this
    exact sub _ this
  have c1' := c0'.symm adj_symm gb
  intro x hx
  refine c1'.trans (Con.trans ((P _ (kap_g1 b hx.2)).mono (fun _ _ h => h) sub) (line _ x hx (Nat.le_refl _)))
end
/-! squares that meet by a corner alone -/
def meetB (F : List Sq) (s o : Sq) : Bool := F.contains o && (!F.contains (s.1, o.2) && !F.contains (o.1, s.2))
def cornB (F : List Sq) : Bool := F.any fun s => (cnM s).any fun o => meetB F s o
def pinchAt (F : List Sq) (s : Sq) (t : Int) : Bool := F.contains (s.1 + 1, s.2 + t) && (!F.contains (s.1, s.2 + t) && !F.contains (s.1 + 1, s.2))
def pinchB (F : List Sq) : Bool := F.any fun s => [(-1 : Int), 1].any fun t => pinchAt F s t
theorem corn_pinch (F : List Sq) : cornB F = pinchB F := by
  rw [Bool.eq_iff_iff]
  simp only [cornB, pinchB, List.any_eq_true, meetB, pinchAt, Bool.and_eq_true, Bool.not_eq_true', List.contains_eq_mem, decide_eq_true_eq, decide_eq_false_iff_not, cnM, List.mem_cons, List.not_mem_nil, or_false]
  constructor
  · rintro ⟨s, hs, o, ho, h1, h2, h3⟩
    obtain ⟨a, b⟩ := s
    rcases ho with rfl | rfl | rfl | rfl
    · refine ⟨_, h1, 1, .inr rfl, ?_, ?_, ?_⟩ <;> simp only [Int.sub_add_cancel] <;> assumption
    · refine ⟨_, h1, -1, .inl rfl, ?_, ?_, ?_⟩ <;> simp only [Int.sub_add_cancel, show b + 1 + -1 = b by omega] <;> assumption
    · exact ⟨_, hs, -1, .inl rfl, h1, h2, h3⟩
    · exact ⟨_, hs, 1, .inr rfl, h1, h2, h3⟩
  · rintro ⟨s, hs, t, ht, h1, h2, h3⟩
    rcases ht with rfl | rfl
    · exact ⟨s, hs, _, .inr (.inr (.inl rfl)), h1, h2, h3⟩
    · exact ⟨s, hs, _, .inr (.inr (.inr rfl)), h1, h2, h3⟩
end TF
set_option Elab.async false
set_option linter.all false
set_option maxRecDepth 100000
set_option maxHeartbeats 4000000
/-! Plain floors: the two ways to see it -/
namespace TF
open Classical in
theorem exRL {R : Sq → Sq → Prop} {g : Sq → Prop} {s : Sq} {B : List Sq} (hB : B.Nodup) (hg : ∀ x, x ∈ B ↔ g x) (hs : g s) : ∃ L, RL R g s L :=
  ⟨B.filter fun x => decide (Con R g s x), hB.filter _, fun x => by
    rw [List.mem_filter, decide_eq_true_eq]
    exact ⟨fun h => h.2, fun h => ⟨(hg x).mpr (h.in hs), h⟩⟩⟩
theorem card_all {R : Sq → Sq → Prop} {g : Sq → Prop} {s : Sq} {B : List Sq} (hB : B.Nodup) (hg : ∀ x, x ∈ B ↔ g x) (hs : g s) : card R g s ≤ B.length ∧ (card R g s = B.length ↔ ∀ x, g x → Con R g s x) := by
  obtain ⟨L, h⟩ := exRL (R := R) hB hg hs
  rw [h.card]
  exact h.all hB hg hs
abbrev nbR : Sq → Sq → Prop := fun p q => q ∈ nbM p
abbrev aaR : Sq → Sq → Prop := fun p q => q ∈ aaM p
abbrev n9R : Sq → Sq → Prop := fun p q => q ∈ n9 p
noncomputable def hangB (F : List Sq) : Bool := (((card nbR (· ∈ F) (F.headD (0, 0)) : Nat) : Int) == ((F.length : Nat) : Int))
noncomputable def holeB (F : List Sq) (r0 r1 c0 c1 : Int) : Bool := decide (((card aaR (· ∈ bareL F r0 r1 c0 c1) (r0 - 1, c0 - 1) : Nat) : Int) < (((bareL F r0 r1 c0 c1).length : Nat) : Int))
noncomputable def noHoleB (F : List Sq) : Bool := (((card n9R (g2 F) (-1, -1) : Nat) : Int) == 100 - ((F.length : Nat) : Int))
theorem bigL_len {F : List Sq} (gd : Good F) : ((boxL (-1) (-1) 10 10).filter fun q => !F.contains q).length = 100 - F.length ∧ F.length ≤ 100 := by
  have h1 : ∀ (l : List Sq) (p : Sq → Bool), (l.filter p).length + (l.filter fun q => !p q).length = l.length := by
    intro l p
    induction l with
    | nil => rfl
    | cons a r ih =>
      by_cases h : p a = true
      · simp only [List.filter_cons, h, if_true, Bool.not_true, Bool.false_eq_true, if_false, List.length_cons]; omega
      · simp only [List.filter_cons, h, if_false, Bool.false_eq_true, Bool.not_false, if_true, List.length_cons]; omega
  have h2 := h1 (boxL (-1) (-1) 10 10) fun q => F.contains q
  have nd := up_nodup (box_up (-1) (-1) 10 10)
  have h3 : ((boxL (-1) (-1) 10 10).filter fun q => F.contains q).length = F.length := nodup_len (nd.filter _) gd.nodup fun x => by
    rw [List.mem_filter, mem_box, List.contains_eq_mem, decide_eq_true_eq]
    exact ⟨fun h => h.2, fun h => ⟨by have := gd.inn x h; omega, h⟩⟩
  rw [box_len, h3] at h2
  omega
theorem hole_eq {F : List Sq} (gd : Good F) {r0 r1 c0 c1 : Int} (b : BB F r0 r1 c0 c1) : (!holeB F r0 r1 c0 c1) = noHoleB F := by
  obtain ⟨h1, h2⟩ := b.le
  have e0 := gd.inn
  have k1 : g1 F r0 r1 c0 c1 (r0 - 1, c0 - 1) := ⟨by simp only; omega, fun hm => by have := b.in hm; simp only at this; omega⟩
  have m1 : g2 F (-1, -1) := ⟨by decide, fun hm => by have := e0 _ hm; simp at this⟩
  have eg : (fun x => x ∈ bareL F r0 r1 c0 c1) = g1 F r0 r1 c0 c1 := funext fun x => propext (mem_bare b x)
  obtain ⟨a1, a2⟩ := card_all (R := aaR) (s := (r0 - 1, c0 - 1)) (bare_nodup (F := F) (r0 := r0) (r1 := r1) (c0 := c0) (c1 := c1)) (mem_bare b) k1
  have nd := up_nodup (box_up (-1) (-1) 10 10)
  obtain ⟨b1, b2⟩ := card_all (R := n9R) (s := (-1, -1)) (g := g2 F) (B := (boxL (-1) (-1) 10 10).filter fun q => !F.contains q) (nd.filter _) (fun x => by
    rw [List.mem_filter, mem_box]
    simp only [Bool.not_eq_true', List.contains_eq_mem, decide_eq_false_iff_not, g2]
    constructor
    · rintro ⟨h, h'⟩; exact ⟨by omega, h'⟩
    · rintro ⟨h, h'⟩; exact ⟨by omega, h'⟩) m1
  obtain ⟨l1, l2⟩ := bigL_len gd
  rw [l1] at b1 b2
  have iff : (∀ x, g1 F r0 r1 c0 c1 x → Con aaR (g1 F r0 r1 c0 c1) (r0 - 1, c0 - 1) x) ↔ ∀ x, g2 F x → Con n9R (g2 F) (-1, -1) x :=
    ⟨fun h x hx => con_9.mpr (con21 b gd (fun y hy => con_aa.mp (h y hy)) x hx), fun h x hx => con_aa.mpr (con12 b gd (fun y hy => con_9.mp (h y hy)) x hx)⟩
  rw [Bool.eq_iff_iff]
  unfold holeB noHoleB
  rw [eg]
  simp only [Bool.not_eq_true', decide_eq_false_iff_not, beq_iff_eq]
  constructor
  · intro h
    have : card aaR (g1 F r0 r1 c0 c1) (r0 - 1, c0 - 1) = (bareL F r0 r1 c0 c1).length := by omega
    have := b2.mpr (iff.mp (a2.mp this))
    omega
  · intro h
    have : card n9R (g2 F) (-1, -1) = 100 - F.length := by omega
    have := a2.mpr (iff.mpr (b2.mp this))
    omega
end TF
set_option Elab.async false
set_option linter.all false
set_option maxRecDepth 100000
set_option maxHeartbeats 4000000
/-! Dicts of squares; promises of the defs over plain floors -/
namespace TF
open PySem PySem.Spec L2
open PyProof.Rows hiding St RelV
theorem put4 {G : Gs} {p1 p2 : Addr} {A B A' B' : OD} (h : p1 ≠ p2) : put (put (put (put G p1 A) p2 B) p1 A') p2 B' = put (put G p1 A') p2 B' := by
  funext b
  simp only [put]
  by_cases h2 : b = p2
  · simp [h2]
  · by_cases h1 : b = p1
    · simp [h1]
    · simp [h1, h2]
theorem fil_snoc (L : List Sq) (p : Sq → Bool) (z : Sq) (h : p z = true) : ((L ++ [z]).filter p).map sq = (L.filter p).map sq ++ [sq z] := by
  rw [List.filter_append, List.map_append]; simp [h]
theorem fil_snocN (L : List Sq) (p : Sq → Bool) (z : Sq) (h : ¬ p z = true) : (L ++ [z]).filter p = L.filter p := by
  rw [List.filter_append]; simp [h]
theorem lenD_fl (G : Gs) (q : List Sq) : lenD G (fl q) = some q.length := by simp [lenD, fl]
theorem head_at {F : List Sq} (gd : Good F) : atI (F.map sq) 0 = some (sq (F.headD (0, 0))) := by
  cases F with
  | nil => exact absurd rfl gd.ne
  | cons a r => exact atI_nat (j := 0) rfl
theorem key_sq (q : Sq) : keyD 6 (sq q) = true := rfl
def kvT (q : Sq) : Dat × Dat := (sq q, .bl true)
theorem lookD_sq (L : List Sq) (v : Sq → Dat) (y : Sq) : lookD (L.map fun q => (sq q, v q)) (sq y) = if y ∈ L then some (v y) else none := by
  induction L with
  | nil => rfl
  | cons a r ih =>
    unfold lookD at ih ⊢
    rw [List.map_cons, List.find?_cons]
    by_cases h : a = y
    · subst h
      simp
    · have hne : sq a ≠ sq y := fun e => h (sq_inj e)
      rw [decide_eq_false hne]
      simp only
      rw [ih]
      have : (y ∈ a :: r) ↔ y ∈ r := by simp [Ne.symm h]
      simp only [this]
theorem look_kv (L : List Sq) (y : Sq) : (lookD (L.map kvT) (sq y)).isSome = L.contains y := by
  have := lookD_sq L (fun _ => .bl true) y
  have e : (L.map fun q => (sq q, Dat.bl true)) = L.map kvT := rfl
  rw [e] at this
  rw [this]
  by_cases h : y ∈ L <;> simp [h]
theorem put_kv {L : List Sq} {y : Sq} (h : y ∉ L) : putD (L.map kvT) (sq y) (.bl true) = (L ++ [y]).map kvT := by
  rw [putD_new, List.map_append]
  · rfl
  · have := look_kv L y
    cases e : lookD (L.map kvT) (sq y) with
    | none => rfl
    | some d => rw [e] at this; simp [h] at this
def spNb (nb : Sq → List Sq) : SpD := fun ds G R => ∃ q : Sq, ds = [sq q] ∧ R (.lst ((nb q).map sq)) G
def spReached (P : Program) (w : World) (K : PySem.W.Frag) (mg : Str → Option Value) (base : Heap) (kk : Nat) : SpD := fun ds G R => ∃ (start : Sq) (g : List Sq) (gd : Dat) (f : Addr) (nb : Sq → List Sq),
  ds = [sq start, gd, .fn f] ∧ (gd = .tup (g.map sq) ∨ gd = .lst (g.map sq)) ∧ DfA P w K mg base f ["square"] kk (spNb nb) ∧ g.length ≤ 1000 ∧
    ∀ p L, G p = none → RL (fun a b => b ∈ nb a) (· ∈ g) start L → R (.fn p) (put G p (.dct (L.map kvT)))
def spF (v : List Sq → Dat) : SpD := fun ds G R => ∃ F : List Sq, ds = [fl F] ∧ Good F ∧ R (v F) G
def spBare : SpD := fun ds G R => ∃ (F : List Sq) (r0 r1 c0 c1 : Int), ds = [fl F] ∧ Good F ∧ BB F r0 r1 c0 c1 ∧ R (.lst ((bareL F r0 r1 c0 c1).map sq)) G
def spHole : SpD := fun ds G R => ∃ (F : List Sq) (r0 r1 c0 c1 : Int), ds = [fl F] ∧ Good F ∧ BB F r0 r1 c0 c1 ∧ R (.bl (holeB F r0 r1 c0 c1)) G
def spMeet : SpD := fun ds G R => ∃ (F : List Sq) (s o : Sq), ds = [fl F, sq s, sq o] ∧ R (.bl (meetB F s o)) G
/-- what is_plain tells -/
noncomputable def plainP (F : List Sq) : Bool := hangB F && (noHoleB F && !cornB F)
theorem con_sub {nb : Sq → List Sq} {g : List Sq} {s x : Sq} (h : Con (fun a b => b ∈ nb a) (· ∈ g) s x) : x ∈ s :: g := by
  cases h with
  | base => exact List.mem_cons_self ..
  | step _ _ gy => exact List.mem_cons_of_mem _ gy
theorem rl_of {R : Sq → Sq → Prop} {g : Sq → Prop} {s : Sq} {L : List Sq} (nd : L.Nodup) (hs : s ∈ L) (hc : ∀ x ∈ L, Con R g s x) (cl : ∀ x ∈ L, ∀ y, R x y → g y → y ∈ L) : RL R g s L :=
  ⟨nd, fun x => ⟨hc x, fun h => by
    induction h with
    | base => exact hs
    | step _ r gy ih => exact cl _ ih _ r gy⟩⟩
theorem bare_cons {F : List Sq} {r0 r1 c0 c1 : Int} (b : BB F r0 r1 c0 c1) : ∃ r, bareL F r0 r1 c0 c1 = (r0 - 1, c0 - 1) :: r := by
  obtain ⟨h1, h2⟩ := b.le
  unfold bareL
  obtain ⟨m, hm⟩ : ∃ m, (r1 + 2 - (r0 - 1)).toNat = m + 1 := ⟨(r1 + 2 - (r0 - 1)).toNat - 1, by omega⟩
  obtain ⟨n, hn⟩ : ∃ n, (c1 + 2 - (c0 - 1)).toNat = n + 1 := ⟨(c1 + 2 - (c0 - 1)).toNat - 1, by omega⟩
  rw [hm, hn]
  have e : ∃ r, boxL (r0 - 1) (c0 - 1) (m + 1) (n + 1) = (r0 - 1, c0 - 1) :: r := by
    unfold boxL
    rw [show List.range (m + 1) = 0 :: (List.range m).map Nat.succ from List.range_succ_eq_map, List.flatMap_cons, show List.range (n + 1) = 0 :: (List.range n).map Nat.succ from List.range_succ_eq_map, List.map_cons]
    exact ⟨_, by simp; rfl⟩
  obtain ⟨r, e⟩ := e
  rw [e, List.filter_cons, if_pos]
  · exact ⟨_, rfl⟩
  · simp only [Bool.not_eq_true', List.contains_eq_mem, decide_eq_false_iff_not]
    intro hm
    have := b.in hm
    simp only at this
    omega
theorem bare_le {F : List Sq} (gd : Good F) {r0 r1 c0 c1 : Int} (b : BB F r0 r1 c0 c1) : (bareL F r0 r1 c0 c1).length ≤ 1000 := by
  have mr0 : ∀ a ∈ F.map (·.1), 0 ≤ a ∧ a ≤ 7 := fun a ha => by obtain ⟨p, hp, rfl⟩ := List.mem_map.mp ha; have := gd.inn p hp; omega
  have mc0 : ∀ a ∈ F.map (·.2), 0 ≤ a ∧ a ≤ 7 := fun a ha => by obtain ⟨p, hp, rfl⟩ := List.mem_map.mp ha; have := gd.inn p hp; omega
  have b1 := mr0 _ b.r0m
  have b2 := mr0 _ b.r1m
  have b3 := mc0 _ b.c0m
  have b4 := mc0 _ b.c1m
  refine Nat.le_trans (List.length_filter_le _ _) ?_
  rw [box_len]
  have : (r1 + 2 - (r0 - 1)).toNat * (c1 + 2 - (c0 - 1)).toNat ≤ 10 * 10 := Nat.mul_le_mul (by omega) (by omega)
  omega
theorem plain_sqD (q : Sq) : plainD 8 (sq q) = true := plain_sq q 7
theorem plain_sqsD (l : List Sq) : (l.map sq).all (plainD 8) = true := plain_sqs l 7
end TF
namespace TF
open PySem PySem.Spec L2
open PyProof.Rows hiding St RelV
theorem nb_nodup (q : Sq) : (nbM q).Nodup := by
  obtain ⟨a, b⟩ := q
  simp only [nbM, List.nodup_cons, List.mem_cons, List.not_mem_nil, or_false, Prod.mk.injEq, List.nodup_nil, and_true, not_false_eq_true]
  omega
def spNear : SpD := fun ds G R => ∃ (F : List Sq) (q : Sq), ds = [fl F, sq q] ∧ R (.lst (((nbM q).filter F.contains).map sq)) G
def spRing : SpD := fun ds G R => ∃ (ns : List Int), ds = [.scr ns] ∧ ∀ F, Good F → R (fl F) G
def spTrue : SpD := fun ds G R => ∃ (ns : List Int), ds = [.scr ns] ∧ R (.bl true) G
theorem cut1 (l : List Dat) : cutD l (some 1) none = l.drop 1 := by
  unfold cutD
  cases l with
  | nil => rfl
  | cons x r =>
    have e : HT.sIx (x :: r).length 0 (some 1) = 1 := by
      have := HT.sIx_nat (x :: r).length 0 1
      rw [show ((1 : Nat) : Int) = 1 from rfl] at this
      rw [this, List.length_cons]
      omega
    rw [e, HT.sIx_none]
    simp
theorem md (x : Int) (n : Nat) (h : 0 < n) : ∃ r : Nat, r < n ∧ x % (n : Int) = (r : Int) := by
  refine ⟨(x % (n : Int)).toNat, ?_, ?_⟩
  · have := Int.emod_lt_of_pos x (show (0 : Int) < n by omega)
    have := Int.emod_nonneg x (show (n : Int) ≠ 0 by omega)
    omega
  · have := Int.emod_nonneg x (show (n : Int) ≠ 0 by omega)
    omega
def bordB (h w : Nat) (q : Sq) : Bool := (q.1 == 1 || q.1 == (h : Int) + 1) || (q.2 == 1 || q.2 == (w : Int) + 1)
def ringL (i h w : Nat) : List Sq := (boxL 1 1 i (w + 1)).filter (bordB h w)
theorem ring_sz : ∀ h ∈ [2, 3, 4, 5], ∀ w ∈ [2, 3, 4, 5], 3 ≤ (ringL (h + 1) h w).length ∧ (ringL (h + 1) h w).length ≤ 24 := by decide +kernel
theorem good_ring {h w : Nat} (h1 : h ∈ [2, 3, 4, 5]) (h2 : w ∈ [2, 3, 4, 5]) (gone : List Sq) (hg : gone.length ≤ 2) : Good ((ringL (h + 1) h w).filter fun q => !gone.contains q) := by
  obtain ⟨s1, s2⟩ := ring_sz h h1 w h2
  have up : (ringL (h + 1) h w).Pairwise sqLt := (box_up _ _ _ _).sublist List.filter_sublist
  have b1 : h ≤ 5 := by simp at h1; omega
  have b2 : w ≤ 5 := by simp at h2; omega
  refine ⟨fun he => ?_, up.sublist List.filter_sublist, fun p hp => ?_, Nat.le_trans (List.length_filter_le _ _) s2⟩
  · have : (ringL (h + 1) h w).length ≤ gone.length := nodup_le (up_nodup up) fun x hx => by
      refine Classical.byContradiction fun hn => ?_
      have : x ∈ (ringL (h + 1) h w).filter fun q => !gone.contains q := by rw [List.mem_filter]; exact ⟨hx, by simp [hn]⟩
      rw [he] at this
      cases this
    omega
  · have := mem_box.mp (List.mem_filter.mp (List.mem_filter.mp hp).1).1
    omega
end TF
set_option Elab.async false
set_option linter.all false
set_option maxRecDepth 100000
set_option maxHeartbeats 4000000
namespace TF
open PySem PySem.Spec L2
open PyProof.Rows hiding St RelV
def top (i : Nat) : Stmt := PySem.Challenge.pw_tilefloor_k09_plain_floors.main.body.getD i (.Pass ⟨0, 0, 0, 0⟩)
abbrev s_neighbours : Stmt := top 1
abbrev N_neighbours : List Str := ["square", "row", "column"]
abbrev P_neighbours : List Str := ["square"]
theorem sc_neighbours : FnScope N_neighbours P_neighbours (defScope s_neighbours) := ⟨rfl, rfl, rfl, by decide +kernel, rfl, by decide +kernel, by decide +kernel⟩
abbrev s_corner_neighbours : Stmt := top 2
abbrev N_corner_neighbours : List Str := ["square", "row", "column"]
abbrev P_corner_neighbours : List Str := ["square"]
theorem sc_corner_neighbours : FnScope N_corner_neighbours P_corner_neighbours (defScope s_corner_neighbours) := ⟨rfl, rfl, rfl, by decide +kernel, rfl, by decide +kernel, by decide +kernel⟩
abbrev s_all_around : Stmt := top 3
abbrev N_all_around : List Str := ["square"]
abbrev P_all_around : List Str := ["square"]
theorem sc_all_around : FnScope N_all_around P_all_around (defScope s_all_around) := ⟨rfl, rfl, rfl, by decide +kernel, rfl, by decide +kernel, by decide +kernel⟩
abbrev s_reached : Stmt := top 4
abbrev N_reached : List Str := ["start", "ground", "around", "found", "waiting", "square", "other"]
abbrev P_reached : List Str := ["start", "ground", "around"]
theorem sc_reached : FnScope N_reached P_reached (defScope s_reached) := ⟨rfl, rfl, rfl, by decide +kernel, rfl, by decide +kernel, by decide +kernel⟩
abbrev s_hangs_together : Stmt := top 5
abbrev N_hangs_together : List Str := ["floor"]
abbrev P_hangs_together : List Str := ["floor"]
theorem sc_hangs_together : FnScope N_hangs_together P_hangs_together (defScope s_hangs_together) := ⟨rfl, rfl, rfl, by decide +kernel, rfl, by decide +kernel, by decide +kernel⟩
abbrev s_bare_squares : Stmt := top 6
abbrev N_bare_squares : List Str := ["floor", "rows", "columns", "bare", "row", "column"]
abbrev P_bare_squares : List Str := ["floor"]
theorem sc_bare_squares : FnScope N_bare_squares P_bare_squares (defScope s_bare_squares) := ⟨rfl, rfl, rfl, by decide +kernel, rfl, by decide +kernel, by decide +kernel⟩
abbrev C_bare_squares_0 : List Str := ["square"]
abbrev Q_bare_squares_0 : List (Option Nat) := [none]
abbrev C_bare_squares_1 : List Str := ["square"]
abbrev Q_bare_squares_1 : List (Option Nat) := [none]
abbrev s_has_hole : Stmt := top 7
abbrev N_has_hole : List Str := ["floor", "bare"]
abbrev P_has_hole : List Str := ["floor"]
theorem sc_has_hole : FnScope N_has_hole P_has_hole (defScope s_has_hole) := ⟨rfl, rfl, rfl, by decide +kernel, rfl, by decide +kernel, by decide +kernel⟩
abbrev s_meet_by_corner_alone : Stmt := top 8
abbrev N_meet_by_corner_alone : List Str := ["floor", "one", "other"]
abbrev P_meet_by_corner_alone : List Str := ["floor", "one", "other"]
theorem sc_meet_by_corner_alone : FnScope N_meet_by_corner_alone P_meet_by_corner_alone (defScope s_meet_by_corner_alone) := ⟨rfl, rfl, rfl, by decide +kernel, rfl, by decide +kernel, by decide +kernel⟩
abbrev s_has_bare_corner : Stmt := top 9
abbrev N_has_bare_corner : List Str := ["floor", "square", "other"]
abbrev P_has_bare_corner : List Str := ["floor"]
theorem sc_has_bare_corner : FnScope N_has_bare_corner P_has_bare_corner (defScope s_has_bare_corner) := ⟨rfl, rfl, rfl, by decide +kernel, rfl, by decide +kernel, by decide +kernel⟩
abbrev s_is_plain : Stmt := top 10
abbrev N_is_plain : List Str := ["floor"]
abbrev P_is_plain : List Str := ["floor"]
theorem sc_is_plain : FnScope N_is_plain P_is_plain (defScope s_is_plain) := ⟨rfl, rfl, rfl, by decide +kernel, rfl, by decide +kernel, by decide +kernel⟩
abbrev s_law_cell : Stmt := top 12
abbrev N_law_cell : List Str := ["_law_script", "_law_k"]
abbrev P_law_cell : List Str := ["_law_script", "_law_k"]
theorem sc_law_cell : FnScope N_law_cell P_law_cell (defScope s_law_cell) := ⟨rfl, rfl, rfl, by decide +kernel, rfl, by decide +kernel, by decide +kernel⟩
abbrev s_law_mix : Stmt := top 13
abbrev N_law_mix : List Str := ["_law_cell_here", "_law_prime", "_law_many"]
abbrev P_law_mix : List Str := ["_law_cell_here", "_law_prime", "_law_many"]
theorem sc_law_mix : FnScope N_law_mix P_law_mix (defScope s_law_mix) := ⟨rfl, rfl, rfl, by decide +kernel, rfl, by decide +kernel, by decide +kernel⟩
abbrev s_law_floor : Stmt := top 14
abbrev N_law_floor : List Str := ["_law_script", "_law_at", "_law_cell_here", "_law_rows", "_law_wide", "_law_down", "_law_right", "_law_some", "_law_r", "_law_gone", "_law_k", "_law_seed", "_law_one", "_law_left"]
abbrev P_law_floor : List Str := ["_law_script", "_law_at"]
theorem sc_law_floor : FnScope N_law_floor P_law_floor (defScope s_law_floor) := ⟨rfl, rfl, rfl, by decide +kernel, rfl, by decide +kernel, by decide +kernel⟩
abbrev C_law_floor_0 : List Str := ["_law_c", "_law_down", "_law_r", "_law_right"]
abbrev Q_law_floor_0 : List (Option Nat) := [none, some 5, some 8, some 6]
abbrev C_law_floor_1 : List Str := ["_law_one", "_law_gone"]
abbrev Q_law_floor_1 : List (Option Nat) := [none, some 9]
abbrev s_law_near : Stmt := top 15
abbrev N_law_near : List Str := ["_law_floor_here", "_law_square", "_law_r", "_law_c"]
abbrev P_law_near : List Str := ["_law_floor_here", "_law_square"]
theorem sc_law_near : FnScope N_law_near P_law_near (defScope s_law_near) := ⟨rfl, rfl, rfl, by decide +kernel, rfl, by decide +kernel, by decide +kernel⟩
abbrev C_law_near_0 : List Str := ["_law_one", "_law_floor_here"]
abbrev Q_law_near_0 : List (Option Nat) := [none, some 0]
abbrev s_law_hangs : Stmt := top 16
abbrev N_law_hangs : List Str := ["_law_floor_here", "_law_met", "_law_at"]
abbrev P_law_hangs : List Str := ["_law_floor_here"]
theorem sc_law_hangs : FnScope N_law_hangs P_law_hangs (defScope s_law_hangs) := ⟨rfl, rfl, rfl, by decide +kernel, rfl, by decide +kernel, by decide +kernel⟩
abbrev C_law_hangs_0 : List Str := ["_law_one", "_law_met"]
abbrev Q_law_hangs_0 : List (Option Nat) := [none, some 1]
abbrev s_law_no_hole : Stmt := top 17
abbrev N_law_no_hole : List Str := ["_law_floor_here", "_law_met", "_law_todo", "_law_r", "_law_c", "_law_k", "_law_one"]
abbrev P_law_no_hole : List Str := ["_law_floor_here"]
theorem sc_law_no_hole : FnScope N_law_no_hole P_law_no_hole (defScope s_law_no_hole) := ⟨rfl, rfl, rfl, by decide +kernel, rfl, by decide +kernel, by decide +kernel⟩
abbrev s_law_no_pinch : Stmt := top 18
abbrev N_law_no_pinch : List Str := ["_law_floor_here", "_law_r", "_law_c", "_law_step"]
abbrev P_law_no_pinch : List Str := ["_law_floor_here"]
theorem sc_law_no_pinch : FnScope N_law_no_pinch P_law_no_pinch (defScope s_law_no_pinch) := ⟨rfl, rfl, rfl, by decide +kernel, rfl, by decide +kernel, by decide +kernel⟩
abbrev s_law_plain : Stmt := top 19
abbrev N_law_plain : List Str := ["_law_floor_here"]
abbrev P_law_plain : List Str := ["_law_floor_here"]
theorem sc_law_plain : FnScope N_law_plain P_law_plain (defScope s_law_plain) := ⟨rfl, rfl, rfl, by decide +kernel, rfl, by decide +kernel, by decide +kernel⟩
abbrev s_law_ring : Stmt := top 20
abbrev N_law_ring : List Str := ["_law_script", "_law_high", "_law_wide", "_law_found", "_law_r", "_law_gone"]
abbrev P_law_ring : List Str := ["_law_script"]
theorem sc_law_ring : FnScope N_law_ring P_law_ring (defScope s_law_ring) := ⟨rfl, rfl, rfl, by decide +kernel, rfl, by decide +kernel, by decide +kernel⟩
abbrev C_law_ring_0 : List Str := ["_law_c", "_law_high", "_law_r", "_law_wide"]
abbrev Q_law_ring_0 : List (Option Nat) := [none, some 1, some 4, some 2]
abbrev C_law_ring_1 : List Str := ["_law_one", "_law_gone"]
abbrev Q_law_ring_1 : List (Option Nat) := [none, some 5]
abbrev s_law : Stmt := top 21
abbrev N_law : List Str := ["_law_script", "_law_floor_here", "_law_found"]
abbrev P_law : List Str := ["_law_script"]
theorem sc_law : FnScope N_law P_law (defScope s_law) := ⟨rfl, rfl, rfl, by decide +kernel, rfl, by decide +kernel, by decide +kernel⟩
end TF
namespace TF
open PySem PySem.Spec L2
open PyProof.Rows hiding St RelV
section
variable {P : Program} {w : World} {K : PySem.W.Frag} {mg : Str → Option Value} {base : Heap} {f : Addr} {fd : FuncData}
theorem ok_law_cell (F : Fun K "_law_cell" "_law_cell" s_law_cell f fd) (ml : mg "len" = none) : FnOk P w K mg base CX0 1 f fd P_law_cell (liftG K spCell) := by
  refine fn_d (k := 0) F sc_law_cell (fun ds G R h => ?_) (fun cdv A outer s H E ds G R hr h => ?_)
  · obtain ⟨ns, k, rfl, _⟩ := h; rfl
  obtain ⟨ns, k, rfl, hR⟩ := h
  refine wss_if (pxt_c (pxc_lt (px_var 1 rfl) (px_len rfl ml (px_var 0 rfl) rfl))) (fun hp => ?_) (fun hp => ?_)
  · have hlt : k < ns.length := by have := of_decide_eq_true hp; omega
    refine wss_ret (px_ixS (px_var 0 rfl) (px_var 1 rfl) (atI_nat (List.getElem?_eq_getElem hlt))) ?_
    have : cellN ns k = ns[k] := by unfold cellN; rw [List.getD_eq_getElem?_getD, List.getElem?_eq_getElem hlt]; rfl
    rw [← this]; exact hR
  · refine wss_nil (wss_ret px_int ?_)
    have hge : ns.length ≤ k := by have := of_decide_eq_false hp; omega
    have : cellN ns k = 0 := by unfold cellN; rw [List.getD_eq_getElem?_getD, List.getElem?_eq_none hge]; rfl
    rw [this] at hR; exact hR
theorem ok_law_mix (F : Fun K "_law_mix" "_law_mix" s_law_mix f fd) : FnOk P w K mg base CX0 1 f fd P_law_mix (liftG K spMix) := by
  refine fn_d (k := 0) F sc_law_mix (fun ds G R h => ?_) (fun cdv A outer s H E ds G R hr h => ?_)
  · obtain ⟨c, p, m, rfl, _⟩ := h; rfl
  obtain ⟨c, p, m, rfl, hp, hm, hR⟩ := h
  exact wss_ret (px_mod (px_mod (px_mul (px_var 0 rfl) px_int (.inr (by decide))) (px_var 1 rfl) hp) (px_var 2 rfl) hm) hR
theorem px_cellE {X : Cx} {ρ : Rho} {G : Gs} {pos p : Pos} {ns : List Int} {a b : Expr} {k : Nat} (FL : Df X.prog X.w X.K X.mg X.base "_law_cell" P_law_cell 1 spCell) (hr : Room 1 X.A) (ha : PX X ρ G a (.scr ns)) (hb : PX X ρ G b (.int (k : Nat))) (hg : Gl X "_law_cell" := by rfl)
    (he : starEach (a :: [b]) X.env = (false, eval a X.env) :: starEach [b] X.env := by rfl) (he2 : starEach [b] X.env = (false, eval b X.env) :: starEach [] X.env := by rfl) (hpl : (backTo pos (starEach [b] X.env)).any (·.1) = false := by rfl) : PX X ρ G (.Call (.Name "_law_cell" p) [a, b] [] pos) (.int (cellN ns k)) :=
  we_df FL hr (pxs_cons ha (pxs_cons hb pxs_nil he2) he) ⟨ns, k, rfl, rfl, rfl⟩ hg (by decide) he hpl
theorem px_mixE {X : Cx} {ρ : Rho} {G : Gs} {pos p : Pos} {a b c : Expr} {x y : Int} {m n : Nat} (FM : Df X.prog X.w X.K X.mg X.base "_law_mix" P_law_mix 1 spMix) (hr : Room 1 X.A) (ha : PX X ρ G a (.int x)) (hb : PX X ρ G b (.int y)) (hc : PX X ρ G c (.int (m : Nat))) (hy : 0 < y) (hm : 0 < m) (hv : mixI x y m = (n : Nat)) (hg : Gl X "_law_mix" := by rfl)
    (he : starEach [a, b, c] X.env = (false, eval a X.env) :: starEach [b, c] X.env := by rfl) (he2 : starEach [b, c] X.env = (false, eval b X.env) :: starEach [c] X.env := by rfl) (he3 : starEach [c] X.env = (false, eval c X.env) :: starEach [] X.env := by rfl) (hpl : (backTo pos (starEach [b, c] X.env)).any (·.1) = false := by rfl) : PX X ρ G (.Call (.Name "_law_mix" p) [a, b, c] [] pos) (.int (n : Nat)) :=
  we_df FM hr (pxs_cons ha (pxs_cons hb (pxs_cons hc pxs_nil he3) he2) he) ⟨x, y, m, rfl, hy, by omega, by rw [hv]; exact ⟨rfl, rfl⟩⟩ hg (by decide) he hpl
theorem ok_law_floor (F : Fun K "_law_floor" "_law_floor" s_law_floor f fd) (ml : mg "len" = none) (mr : mg "range" = none) (mt : mg "tuple" = none) (mx : mg "max" = none) (mn : mg "min" = none)
    (FL : Df P w K mg base "_law_cell" P_law_cell 1 spCell) (FM : Df P w K mg base "_law_mix" P_law_mix 1 spMix) : FnOk P w K mg base CX0 2 f fd P_law_floor (liftG K spFloor) := by
  refine fn_d (k := 1) F sc_law_floor (fun ds G R h => ?_) (fun cdv A outer s H E ds G R hr h => ?_)
  · obtain ⟨ns, k, rfl, _⟩ := h; rfl
  obtain ⟨ns, k, rfl, hR⟩ := h
  have hu : (A.deeper (envOfC "_law_floor" (defScope s_law_floor) s.heap.objs.size f cdv)).units + 9 < cLine := by have := hr.units; omega
  obtain ⟨r0, r0l, r0e⟩ := mix_nat (cellN ns k) 9973 4 (by decide)
  obtain ⟨w0, w0l, w0e⟩ := mix_nat (cellN ns k) 9967 5 (by decide)
  obtain ⟨b0, b0l, b0e⟩ := mix_nat (cellN ns k) 9901 8 (by decide)
  obtain ⟨q0, q0l, q0e⟩ := mix_nat (cellN ns k) 9887 4 (by decide)
  refine wss_set 2 sc_law_floor.nd (px_cellE FL hr (px_var 0 rfl) (px_var 1 rfl)) ?_
  refine wss_set 3 sc_law_floor.nd (PX.cast (d' := .int ((1 + r0 : Nat) : Int)) (px_add px_int (px_mixE (m := 4) FM hr (px_var 2 rfl) px_int px_int (by decide) (by decide) r0e)) rfl) ?_
  refine wss_set 4 sc_law_floor.nd (PX.cast (d' := .int ((1 + w0 : Nat) : Int)) (px_add px_int (px_mixE (m := 5) FM hr (px_var 2 rfl) px_int px_int (by decide) (by decide) w0e)) rfl) ?_
  refine wss_ifM (fun ρ' G' => G = G' ∧ ∃ r wd : Nat, ShapeOk r wd ∧ ρ' = [some (.scr ns), some (.int k), some (.int (cellN ns k)), some (.int (r : Nat)), some (.int (wd : Nat)), none, none, none, none, none, none, none, none, none])
    (pxt_c (pxc_eqI (px_mixE (m := 8) FM hr (px_var 2 rfl) px_int px_int (by decide) (by decide) b0e) px_int)) (fun hp => ?_) (fun hp => ?_) (fun ρ' G' hM => ?_)
  · obtain ⟨r1, hr1, hs1⟩ : ∃ r1 : Nat, atI [Dat.int 2, .int 3, .int 8, .int 6] ((q0 : Nat) : Int) = some (.int (r1 : Nat)) ∧ 0 < r1 ∧ ShapeOk r1 (24 / r1) := by
      have : q0 = 0 ∨ q0 = 1 ∨ q0 = 2 ∨ q0 = 3 := by omega
      rcases this with rfl | rfl | rfl | rfl
      · exact ⟨2, rfl, by decide, .inr (.inl ⟨rfl, rfl⟩)⟩
      · exact ⟨3, rfl, by decide, .inr (.inr (.inl ⟨rfl, rfl⟩))⟩
      · exact ⟨8, rfl, by decide, .inr (.inr (.inr (.inl ⟨rfl, rfl⟩)))⟩
      · exact ⟨6, rfl, by decide, .inr (.inr (.inr (.inr ⟨rfl, rfl⟩)))⟩
    refine wss_set 3 sc_law_floor.nd (px_ixL (px_lst (pxs_cons px_int (pxs_cons px_int (pxs_cons px_int (pxs_cons px_int pxs_nil))))) (px_mixE (m := 4) FM hr (px_var 2 rfl) px_int px_int (by decide) (by decide) q0e) hr1) ?_
    have hb : r1 ≤ 8 := by rcases hs1.2 with h | h | h | h | h <;> omega
    refine wss_set 4 sc_law_floor.nd (PX.cast (d' := .int ((24 / r1 : Nat) : Int)) (px_fdiv px_int (px_var 3 rfl) ⟨by omega, by omega⟩) rfl) (wss_nil ⟨rfl, r1, 24 / r1, hs1.2, rfl⟩)
  · exact wss_nil ⟨rfl, 1 + r0, 1 + w0, .inl ⟨by omega, by omega, by omega, by omega⟩, rfl⟩
  obtain ⟨rfl, r, wd, hsh, rfl⟩ := hM
  have hr8 : r ≤ 8 ∧ 1 ≤ r := by rcases hsh with h | h | h | h | h <;> omega
  have hw12 : wd ≤ 12 ∧ 1 ≤ wd := by rcases hsh with h | h | h | h | h <;> omega
  obtain ⟨hmul, hpos⟩ := shape_mul hsh
  obtain ⟨dn, dnl, dne⟩ := mix_nat (cellN ns (k + 1)) 9949 (9 - r) (by omega)
  obtain ⟨rt, rtl, rte⟩ := mix_nat (cellN ns (k + 1)) 9941 (max 1 (9 - wd)) (by omega)
  have hrt : rt + min wd 8 ≤ 8 := by omega
  refine wss_set 5 sc_law_floor.nd (px_mixE (m := 9 - r) FM hr (px_cellE (k := k + 1) FL hr (px_var 0 rfl) (PX.cast (px_add (px_var 1 rfl) px_int) rfl)) px_int (PX.cast (px_sub px_int (px_var 3 rfl)) (by congr 1; omega)) (by decide) (by omega) dne) ?_
  refine wss_set 6 sc_law_floor.nd (px_mixE (m := max 1 (9 - wd)) FM hr (px_cellE (k := k + 1) FL hr (px_var 0 rfl) (PX.cast (px_add (px_var 1 rfl) px_int) rfl)) px_int (PX.cast (px_max2 rfl mx px_int (px_sub px_int (px_var 4 rfl))) (by congr 1; omega)) (by decide) (by omega) rte) ?_
  refine wss_set 7 sc_law_floor.nd (px_lst pxs_nil) ?_
  refine wss_for (l := rangeD 0 r) (fun i ρ' G' => G = G' ∧ i ≤ r ∧ ∃ x, ρ' = [some (.scr ns), some (.int k), some (.int (cellN ns k)), some (.int (r : Nat)), some (.int (wd : Nat)), some (.int (dn : Nat)), some (.int (rt : Nat)), some (.lst ((rect i (min wd 8) dn rt).map sq)), x, none, none, none, none, none]) PassesOwn.never rfl
    (wi_range1 rfl mr (px_var 3 rfl) (by omega) (by omega) ⟨by rw [Int.toNat_natCast], rfl, Nat.zero_le _, none, rfl⟩) (pgd_name 8 sc_law_floor.nd) ?_ ?_
  · rintro i dd ρ' G' hd ⟨rfl, hi, x, rfl⟩
    obtain ⟨hlt, rfl⟩ := rangeD_get hd
    refine ⟨_, rfl, ?_⟩
    refine wss_set 7 sc_law_floor.nd (px_cat (px_var 7 rfl) (px_compM (Nc := C_law_floor_0) (caps := Q_law_floor_0) (l := rangeD 0 (min wd 8)) (f := bName 0) (fun x => match x with | .int j => sq ((dn : Int) + (0 + (i : Nat)), (rt : Int) + j) | _ => .non)
      (compSc (psc := defScope s_law_floor) (PN := N_law_floor) (by decide +kernel) rfl rfl) rfl (wi_range1 rfl mr (PX.cast (d' := .int ((min wd 8 : Nat) : Int)) (px_min2 rfl mn (px_var 4 rfl) px_int) (by congr 1; omega)) (by omega) (by omega) ⟨by rw [Int.toNat_natCast], rfl⟩)
      (fun C s' H' fp => pgd_name 0 (show C_law_floor_0.Nodup by decide +kernel)) (bName_le rfl) (by rw [rangeD_len]; omega) ?_) ?_) (wss_nil ⟨rfl, hlt, some (.int (0 + (i : Nat))), ?_⟩)
    · intro C s' H' fp G' x hx _
      obtain ⟨j, _, rfl⟩ := rangeD_mem hx
      exact ⟨_, rfl, px_tup (pxs_cons (px_add (px_var 1 rfl) (px_var 2 rfl)) (pxs_cons (px_add (px_var 3 rfl) (px_var 0 rfl)) pxs_nil))⟩
    · rw [List.length_map, List.length_map, rect_len, rangeD_len]
      have : i * min wd 8 ≤ 8 * 8 := Nat.mul_le_mul (by omega) (by omega)
      exact sz (by omega)
    · refine congrArg (fun z => [some (.scr ns), some (.int k), some (.int (cellN ns k)), some (.int (r : Nat)), some (.int (wd : Nat)), some (.int (dn : Nat)), some (.int (rt : Nat)), some (Dat.lst z), some (.int (0 + (i : Nat))), none, none, none, none, none]) ?_
      rw [rect_succ, List.map_append]
      congr 1
      unfold rangeD
      rw [List.map_map, List.map_map]
      refine List.map_congr_left fun j _ => ?_
      simp [Function.comp, sq]
  rintro ρ' G' ⟨rfl, _, x, rfl⟩
  rw [rangeD_len]
  generalize hL : rect r (min wd 8) dn rt = L
  have hLl : L.length = r * min wd 8 := by rw [← hL, rect_len]
  have gd : ∀ F : List Sq, F.Sublist L → F ≠ [] → Good F := fun F h1 h2 => good_sub (r := r) (w := min wd 8) (d := dn) (e := rt) hmul (by omega) hrt (by rw [hL]; exact h1) h2
  have pl : ∀ l : List Sq, l.length ≤ 6 → (l.map sq).all (plainD 8) = true := fun l _ => plain_sqs l 7
  refine wss_ownL 9 sc_law_floor.nd pxs_nil (fun p hG => ?_)
  obtain ⟨nk, nkl, nke⟩ := mix_nat (cellN ns (k + 2)) 9931 4 (by decide)
  refine wss_for (l := rangeD 0 nk) (fun i ρ' G'' => ∃ (gone : List Sq) (y1 y2 y3 : Option Dat), gone.length ≤ 2 * i ∧ G'' = put G p (.lst (gone.map sq)) ∧ ρ' = [some (.scr ns), some (.int k), some (.int (cellN ns k)), some (.int (r : Nat)), some (.int (wd : Nat)), some (.int (dn : Nat)), some (.int (rt : Nat)), some (.lst (L.map sq)), x, some (.fn p), y1, y2, y3, none]) PassesOwn.never rfl
    (wi_range1 rfl mr (px_mixE (m := 4) FM hr (px_cellE (k := k + 2) FL hr (px_var 0 rfl) (PX.cast (px_add (px_var 1 rfl) px_int) rfl)) px_int px_int (by decide) (by decide) nke) (by omega) (by omega) ⟨by rw [Int.toNat_natCast], [], none, none, none, Nat.le_refl _, rfl, rfl⟩) (pgd_name 10 sc_law_floor.nd) ?_ ?_
  · rintro i dd ρ' G'' hd ⟨gone, y1, y2, y3, hgl, rfl, rfl⟩
    obtain ⟨hlt, rfl⟩ := rangeD_get hd
    refine ⟨_, rfl, ?_⟩
    generalize hseed : cellN ns (k + 3 + i) + 17 * (0 + (i : Int)) * (0 + (i : Int)) = seed
    refine wss_set 11 sc_law_floor.nd (PX.cast (d' := .int seed) (px_add (px_cellE (k := k + 3 + i) FL hr (px_var 0 rfl) (PX.cast (px_add (px_add (px_var 1 rfl) px_int) (px_var 10 rfl)) (by congr 1; omega))) (px_mul (px_mul px_int (px_var 10 rfl) (.inl (by decide))) (px_var 10 rfl) (.inr (by constructor <;> omega)))) (by rw [hseed])) ?_
    obtain ⟨ix, ixl, ixe⟩ := mix_nat seed 9929 (r * min wd 8) hpos
    obtain ⟨c3, c3l, c3e⟩ := mix_nat seed 9923 3 (by decide)
    have hix : ix < L.length := by omega
    refine wss_set 12 sc_law_floor.nd (px_ixL (px_var 7 rfl) (px_mixE (m := r * min wd 8) FM hr (px_var 11 rfl) px_int (PX.cast (px_len rfl ml (px_var 7 rfl) rfl) (by rw [List.length_map, hLl])) (by decide) hpos ixe) (atI_map sq (atI_nat (List.getElem?_eq_getElem hix)))) ?_
    refine wss_append (px_var 9 rfl) (px_var 12 rfl) put_same (by rw [List.length_map]; exact sz1 (by omega)) ?_
    rw [put_put]
    refine wss_if (pxt_c (pxc_gt (px_mixE (m := 3) FM hr (px_var 11 rfl) px_int px_int (by decide) (by decide) c3e) px_int)) (fun hp => ?_) (fun hp => wss_nil (wss_nil ?_))
    · refine wss_append (d := sq (L[ix].1, L[ix].2 + 1)) (px_var 9 rfl) (px_tup (pxs_cons (px_ixT (px_var 12 rfl) px_int rfl) (pxs_cons (px_add (px_ixT (px_var 12 rfl) px_int rfl) px_int) pxs_nil))) put_same (by rw [List.length_append, List.length_map]; exact sz1 (by simp; omega)) (wss_nil (wss_nil ?_))
      rw [put_put]
      refine ⟨gone ++ [L[ix], (L[ix].1, L[ix].2 + 1)], _, _, _, by simp; omega, ?_, rfl⟩
      simp
    · refine ⟨gone ++ [L[ix]], _, _, _, by simp; omega, ?_, rfl⟩
      simp
  rintro ρ' G'' ⟨gone, y1, y2, y3, hgl, rfl, rfl⟩
  rw [rangeD_len] at hgl
  refine wss_set 13 sc_law_floor.nd (PX.cast (d' := fl (L.filter fun q => !gone.contains q)) (px_tupleL rfl mt Boot.«tuple» (px_compF (Nc := C_law_floor_1) (caps := Q_law_floor_1) (l := L.map sq) (f := bName 0) (fun d => !((gone.map sq).any fun e => eqD e d)) id
    (compSc (psc := defScope s_law_floor) (PN := N_law_floor) (by decide +kernel) rfl rfl) rfl (wi_list (px_var 7 rfl) ⟨rfl, rfl⟩)
      (fun C s' H' fp => pgd_name 0 (show C_law_floor_1.Nodup by decide +kernel)) (bName_le rfl) (by rw [List.length_map]; omega) ?_)) ?_) ?_
  · intro C s' H' fp G2 d hd kn
    obtain ⟨q, _, rfl⟩ := List.mem_map.mp hd
    exact ⟨_, rfl, pxt_c (pxc_notInS hu (px_var 0 rfl) (px_var 1 rfl) (.inr (.inr ⟨p, rfl, kn _ _ put_same⟩)) (plain_sq q 7) (pl gone (by omega))), fun _ => px_var 0 rfl⟩
  · rw [fil_sq]
    unfold fl
    congr 3
    funext q
    rw [any_sq]
  generalize hF : (L.filter fun q => !gone.contains q) = F
  have hsub : F.Sublist L := by rw [← hF]; exact List.filter_sublist
  refine wss_if (pxt_truth (px_var 13 rfl) rfl) (fun hp => ?_) (fun hp => wss_nil ?_)
  · refine wss_retE (we_rel (PX.we (px_var 13 rfl) ⟨p, ?_⟩))
    rw [rel_put hG]
    refine hR F (gd F hsub ?_)
    rintro rfl
    simp at hp
  · refine wss_retE (we_rel (PX.we (px_tupleL rfl mt Boot.«tuple» (px_var 7 rfl)) ⟨p, ?_⟩))
    rw [rel_put hG]
    refine hR L (gd L (List.Sublist.refl _) ?_)
    rintro rfl
    simp at hLl
    omega
end
end TF
namespace TF
open PySem PySem.Spec L2
open PyProof.Rows hiding St RelV
section
variable {P : Program} {w : World} {K : PySem.W.Frag} {mg : Str → Option Value} {base : Heap} {f : Addr} {fd : FuncData}
theorem ok_neighbours (F : Fun K "neighbours" "neighbours" s_neighbours f fd) : FnOk P w K mg base CX0 1 f fd P_neighbours (liftG K (spNb nbM)) := by
  refine fn_d (k := 0) F sc_neighbours (fun ds G R h => ?_) (fun cdv A outer s H E ds G R hr h => ?_)
  · obtain ⟨q, rfl, _⟩ := h; rfl
  obtain ⟨q, rfl, hR⟩ := h
  refine wss_set 1 sc_neighbours.nd (px_ixT (px_var 0 rfl) px_int rfl) ?_
  refine wss_set 2 sc_neighbours.nd (px_ixT (px_var 0 rfl) px_int rfl) ?_
  exact wss_ret (px_lst (pxs_cons (px_tup (pxs_cons (px_sub (px_var 1 rfl) px_int) (pxs_cons (px_var 2 rfl) pxs_nil))) (pxs_cons (px_tup (pxs_cons (px_var 1 rfl) (pxs_cons (px_sub (px_var 2 rfl) px_int) pxs_nil)))
    (pxs_cons (px_tup (pxs_cons (px_var 1 rfl) (pxs_cons (px_add (px_var 2 rfl) px_int) pxs_nil))) (pxs_cons (px_tup (pxs_cons (px_add (px_var 1 rfl) px_int) (pxs_cons (px_var 2 rfl) pxs_nil))) pxs_nil))))) hR
theorem ok_corner_neighbours (F : Fun K "corner_neighbours" "corner_neighbours" s_corner_neighbours f fd) : FnOk P w K mg base CX0 1 f fd P_corner_neighbours (liftG K (spNb cnM)) := by
  refine fn_d (k := 0) F sc_corner_neighbours (fun ds G R h => ?_) (fun cdv A outer s H E ds G R hr h => ?_)
  · obtain ⟨q, rfl, _⟩ := h; rfl
  obtain ⟨q, rfl, hR⟩ := h
  refine wss_set 1 sc_corner_neighbours.nd (px_ixT (px_var 0 rfl) px_int rfl) ?_
  refine wss_set 2 sc_corner_neighbours.nd (px_ixT (px_var 0 rfl) px_int rfl) ?_
  exact wss_ret (px_lst (pxs_cons (px_tup (pxs_cons (px_sub (px_var 1 rfl) px_int) (pxs_cons (px_sub (px_var 2 rfl) px_int) pxs_nil))) (pxs_cons (px_tup (pxs_cons (px_sub (px_var 1 rfl) px_int) (pxs_cons (px_add (px_var 2 rfl) px_int) pxs_nil)))
    (pxs_cons (px_tup (pxs_cons (px_add (px_var 1 rfl) px_int) (pxs_cons (px_sub (px_var 2 rfl) px_int) pxs_nil))) (pxs_cons (px_tup (pxs_cons (px_add (px_var 1 rfl) px_int) (pxs_cons (px_add (px_var 2 rfl) px_int) pxs_nil))) pxs_nil))))) hR
theorem ok_all_around (F : Fun K "all_around" "all_around" s_all_around f fd) (F1 : Df P w K mg base "neighbours" P_neighbours 1 (spNb nbM)) (F2 : Df P w K mg base "corner_neighbours" P_corner_neighbours 1 (spNb cnM)) : FnOk P w K mg base CX0 2 f fd P_all_around (liftG K (spNb aaM)) := by
  refine fn_d (k := 1) F sc_all_around (fun ds G R h => ?_) (fun cdv A outer s H E ds G R hr h => ?_)
  · obtain ⟨q, rfl, _⟩ := h; rfl
  obtain ⟨q, rfl, hR⟩ := h
  exact wss_ret (px_cat (l := (nbM q).map sq) (m := (cnM q).map sq) (we_df F1 hr (pxs_cons (px_var 0 rfl) pxs_nil) ⟨q, rfl, rfl, rfl⟩) (we_df F2 hr (pxs_cons (px_var 0 rfl) pxs_nil) ⟨q, rfl, rfl, rfl⟩) (show 8 ≤ sizeLine by decide)) hR
theorem ok_reached (kk : Nat) (F : Fun K "reached" "reached" s_reached f fd) (ml : mg "len" = none) : FnOk P w K mg base CX0 (kk + 1) f fd P_reached (liftG K (spReached P w K mg base kk)) := by
  refine fn_d (k := kk) F sc_reached (fun ds G R h => ?_) (fun cdv A outer s H E ds G R hr h => ?_)
  · obtain ⟨start, g, gd, f', nb, rfl, _⟩ := h; rfl
  obtain ⟨start, g, gd, f', nb, rfl, hgd, FA, hgl, hR⟩ := h
  have hu : (A.deeper (envOfC "reached" (defScope s_reached) s.heap.objs.size f cdv)).units + 9 < cLine := by have := hr.units; omega
  refine wss_setE 3 sc_reached.nd (we_d1 hu (fun _ _ => px_var 0 rfl) (fun _ _ => px_bl) (key_sq start) ⟨_, rfl⟩ (fun p1 hp1 => ?_)) 
  refine wss_ownL 4 sc_reached.nd (pxs_cons (px_var 0 rfl) pxs_nil) (fun p2 hp2 => ?_)
  have hne : p1 ≠ p2 := by rintro rfl; rw [put_same] at hp2; cases hp2
  have hp2' : G p2 = none := by rw [put_ne (Ne.symm hne)] at hp2; exact hp2
  have hsub : ∀ L : List Sq, L.Nodup → (∀ x ∈ L, Con (fun a b => b ∈ nb a) (· ∈ g) start x) → L.length ≤ g.length + 1 := fun L h1 h2 => by
    have := nodup_le h1 fun x hx => con_sub (h2 x hx)
    simpa using this
  refine wss_while (fun m ρ' G' => ∃ (L W : List Sq) (y5 y6 : Option Dat), ρ' = [some (sq start), some gd, some (.fn f'), some (.fn p1), some (.fn p2), y5, y6] ∧ G' = put (put G p1 (.dct (L.map kvT))) p2 (.lst (W.map sq)) ∧
      L.Nodup ∧ start ∈ L ∧ (∀ x ∈ L, Con (fun a b => b ∈ nb a) (· ∈ g) start x) ∧ (∀ x ∈ W, x ∈ L) ∧ (∀ x ∈ L, x ∈ W ∨ ∀ y ∈ nb x, y ∈ g → y ∈ L) ∧ m = 2 * (g.length + 1 - L.length) + W.length ∧ m ≤ 2 * g.length + 1) PassesOwn.never
    (m0 := 2 * (g.length + 1 - 1) + 1) ⟨[start], [start], none, none, rfl, rfl, by simp, by simp, fun x hx => by rw [List.mem_singleton.mp hx]; exact .base, fun x hx => hx, fun x hx => .inl hx, rfl, by omega⟩ ?_
  rintro m ρ' G' ⟨L, W, y5, y6, rfl, rfl, nd, hs, hc, hW, hcl, hm, hm2⟩
  refine pxt_mono (pxt_c (pxc_gt (px_len (n := W.length) rfl ml (px_var 4 rfl) (by simp [lenD, put_same])) px_int)) ⟨fun hp => ?_, fun hp => ?_⟩
  · have hpos : 0 < W.length := by have := of_decide_eq_true hp; omega
    obtain ⟨W0, x, rfl⟩ : ∃ W0 x, W = W0 ++ [x] := ⟨W.dropLast, W.getLast (List.ne_nil_of_length_pos hpos), (List.dropLast_concat_getLast _).symm⟩
    rw [List.length_append, List.length_singleton] at hm
    refine wss_setE 5 sc_reached.nd (we_pop (d := sq x) (l := W0.map sq) (px_var 4 rfl) (by rw [put_same, List.map_append]; rfl) ?_)
    rw [put_put]
    have hx : x ∈ L := hW x (by simp)
    have hlen := hsub L nd hc
    refine wss_for (l := (nb x).map sq) (fun i ρ' G' => ∃ (L W : List Sq) (y6 : Option Dat), ρ' = [some (sq start), some gd, some (.fn f'), some (.fn p1), some (.fn p2), some (sq x), y6] ∧ G' = put (put G p1 (.dct (L.map kvT))) p2 (.lst (W.map sq)) ∧
        L.Nodup ∧ start ∈ L ∧ (∀ x ∈ L, Con (fun a b => b ∈ nb a) (· ∈ g) start x) ∧ (∀ x ∈ W, x ∈ L) ∧ x ∈ L ∧ (∀ z ∈ L, z ∈ W ∨ (∀ y ∈ nb z, y ∈ g → y ∈ L) ∨ z = x) ∧ (∀ y ∈ (nb x).take i, y ∈ g → y ∈ L) ∧ 2 * (g.length + 1 - L.length) + W.length + 1 ≤ m) PassesOwn.never rfl
      (wi_listE (we_callV (px_var 2 rfl) FA hr (pxs_cons (px_var 5 rfl) pxs_nil) ⟨x, rfl, _, rfl, rfl, L, W0, y6, rfl, rfl, nd, hs, hc, fun z hz => hW z (by simp [hz]), hx, ?_, by simp, by omega⟩)) (pgd_name 6 sc_reached.nd) ?_ ?_
    · intro z hz
      rcases hcl z hz with h | h
      · rcases List.mem_append.mp h with h | h
        · exact .inl h
        · exact .inr (.inr (List.mem_singleton.mp h))
      · exact .inr (.inl h)
    · clear hlen hx hcl hW hc hs nd hm
      rintro i dd ρ' G' hd ⟨L, W, y6, rfl, rfl, nd, hs, hc, hW, hx, hcl, hi, hm⟩
      rw [List.getElem?_map] at hd
      obtain ⟨y, hy, rfl⟩ := Option.map_eq_some_iff.mp hd
      have hyn : y ∈ nb x := List.mem_of_getElem? hy
      have et : (nb x).take (i + 1) = (nb x).take i ++ [y] := by rw [List.take_add_one, hy]; rfl
      have hG1 : put (put G p1 (.dct (L.map kvT))) p2 (.lst (W.map sq)) p1 = some (.dct (L.map kvT)) := by rw [put_ne hne, put_same]
      have hlen := hsub L nd hc
      refine ⟨_, rfl, wss_if (pxw_and (pxt_c (pxc_inS hu (px_var 6 rfl) (px_var 1 rfl) (hgd.elim .inl fun h => .inr (.inl h)) (plain_sqD y) (plain_sqsD g))) (fun _ => pxw_and1 (pxt_c (pxc_dnotin hu (px_var 6 rfl) (px_var 3 rfl) hG1 (key_sq y) ⟨_, rfl⟩)))).t (fun hp => ?_) (fun hp => wss_nil (wss_nil ?_))⟩
      · rw [any_sq, look_kv] at hp
        simp only [Bool.and_eq_true, Bool.not_eq_true', List.contains_eq_mem, decide_eq_true_eq, decide_eq_false_iff_not] at hp
        obtain ⟨hyg, hyL⟩ := hp
        refine wss_dput (d := .bl true) hu px_bl (px_var 3 rfl) (px_var 6 rfl) hG1 (key_sq y) ⟨_, rfl⟩ (by rw [List.length_map]; exact sz1 (by omega)) ?_
        rw [put_kv hyL]
        refine wss_append (d := sq y) (l := W.map sq) (px_var 4 rfl) (px_var 6 rfl) (by rw [put_ne (Ne.symm hne), put_same]) (by rw [List.length_map]; exact sz1 (by omega)) (wss_nil (wss_nil ?_))
        refine ⟨L ++ [y], W ++ [y], _, rfl, ?_, ?_, by simp [hs], ?_, ?_, by simp [hx], ?_, ?_, ?_⟩
        · rw [put4 hne]
          simp only [List.map_append, List.map_cons, List.map_nil]
        · rw [List.nodup_append]
          exact ⟨nd, by simp, fun a ha b hb e => by rw [List.mem_singleton.mp hb] at e; subst e; exact hyL ha⟩
        · intro z hz
          rcases List.mem_append.mp hz with h | h
          · exact hc z h
          · rw [List.mem_singleton.mp h]; exact .step (hc x hx) hyn hyg
        · intro z hz
          rcases List.mem_append.mp hz with h | h
          · exact List.mem_append_left _ (hW z h)
          · exact List.mem_append_right _ h
        · intro z hz
          rcases List.mem_append.mp hz with h | h
          · rcases hcl z h with h | h | h
            · exact .inl (List.mem_append_left _ h)
            · exact .inr (.inl fun y' h1 h2 => List.mem_append_left _ (h y' h1 h2))
            · exact .inr (.inr h)
          · exact .inl (List.mem_append_right _ h)
        · intro y' h1 h2
          rw [et] at h1
          rcases List.mem_append.mp h1 with h | h
          · exact List.mem_append_left _ (hi y' h h2)
          · exact List.mem_append_right _ h
        · have hlen' := hsub (L ++ [y]) (by
            rw [List.nodup_append]
            exact ⟨nd, by simp, fun a ha b hb e => by rw [List.mem_singleton.mp hb] at e; subst e; exact hyL ha⟩) (by
            intro z hz
            rcases List.mem_append.mp hz with h | h
            · exact hc z h
            · rw [List.mem_singleton.mp h]; exact .step (hc x hx) hyn hyg)
          simp only [List.length_append, List.length_singleton] at hlen' ⊢
          omega
      · rw [any_sq, look_kv] at hp
        refine ⟨L, W, _, rfl, rfl, nd, hs, hc, hW, hx, hcl, ?_, hm⟩
        intro y' h1 h2
        rw [et] at h1
        rcases List.mem_append.mp h1 with h | h
        · exact hi y' h h2
        · rw [List.mem_singleton.mp h] at h2 ⊢
          refine Classical.byContradiction fun hn => ?_
          simp [h2, hn] at hp
    · clear hlen hx hcl hW hc hs nd hm
      rintro ρ' G' ⟨L, W, y6, rfl, rfl, nd, hs, hc, hW, hx, hcl, hi, hm⟩
      rw [List.length_map, List.take_length] at hi
      refine wss_nil ⟨_, hm, L, W, _, y6, rfl, rfl, nd, hs, hc, hW, fun z hz => ?_, rfl, by omega⟩
      rcases hcl z hz with h | h | rfl
      · exact .inl h
      · exact .inr h
      · exact .inr hi
  · have hW0 : W = [] := by
      have := of_decide_eq_false hp
      exact List.eq_nil_of_length_eq_zero (by omega)
    subst hW0
    refine wss_retE (we_rel (PX.we (px_var 3 rfl) ⟨p2, ?_⟩))
    rw [rel_put (by rw [put_ne (Ne.symm hne)]; exact hp2')]
    exact hR p1 L hp1 (rl_of nd hs hc fun x hx y h1 h2 => by
      rcases hcl x hx with h | h
      · cases h
      · exact h y h1 h2)
theorem ok_hangs_together (F : Fun K "hangs_together" "hangs_together" s_hangs_together f fd) (ml : mg "len" = none) (FR : Df P w K mg base "reached" P_reached 2 (spReached P w K mg base 1)) (FN : ∃ f', mg "neighbours" = some (.ref f') ∧ DfA P w K mg base f' ["square"] 1 (spNb nbM)) : FnOk P w K mg base CX0 3 f fd P_hangs_together (liftG K (spF fun F => .bl (hangB F))) := by
  refine fn_d (k := 2) F sc_hangs_together (fun ds G R h => ?_) (fun cdv A outer s H E ds G R hr h => ?_)
  · obtain ⟨q, rfl, _⟩ := h; rfl
  obtain ⟨q, rfl, gd, hR⟩ := h
  obtain ⟨f', hm, FA⟩ := FN
  have hix := head_at gd
  refine wss_ret (px_c (pxc_eqI (i := (card nbR (· ∈ q) (q.headD (0, 0)) : Nat)) (j := (q.length : Nat)) (we_rel (we_lenD ml (we_df FR hr (pxs_cons (px_ixT (px_var 0 rfl) px_int hix) (pxs_cons (px_var 0 rfl) (pxs_cons (px_fn hm) pxs_nil)))
    ⟨q.headD (0, 0), q, _, f', nbM, rfl, .inl rfl, FA, by have := gd.len; omega, fun p L hp hL => ⟨p, _, rfl, put_same, p, ?_, rel_put hp⟩⟩))) (px_len rfl ml (px_var 0 rfl) (lenD_fl _ _)))) hR
  rw [List.length_map, hL.card]
theorem ok_bare_squares (F : Fun K "bare_squares" "bare_squares" s_bare_squares f fd) (mr : mg "range" = none) (mn : mg "min" = none) (mx : mg "max" = none) : FnOk P w K mg base CX0 1 f fd P_bare_squares (liftG K spBare) := by
  refine fn_d (k := 0) F sc_bare_squares (fun ds G R h => ?_) (fun cdv A outer s H E ds G R hr h => ?_)
  · obtain ⟨q, r0, r1, c0, c1, rfl, _⟩ := h; rfl
  obtain ⟨q, r0, r1, c0, c1, rfl, gd, bb, hR⟩ := h
  have hu : (A.deeper (envOfC "bare_squares" (defScope s_bare_squares) s.heap.objs.size f cdv)).units + 9 < cLine := by have := hr.units; omega
  have hql := gd.len
  have mr0 : ∀ a ∈ q.map (·.1), 0 ≤ a ∧ a ≤ 7 := fun a ha => by obtain ⟨p, hp, rfl⟩ := List.mem_map.mp ha; have := gd.inn p hp; omega
  have mc0 : ∀ a ∈ q.map (·.2), 0 ≤ a ∧ a ≤ 7 := fun a ha => by obtain ⟨p, hp, rfl⟩ := List.mem_map.mp ha; have := gd.inn p hp; omega
  have b1 := mr0 _ bb.r0m
  have b2 := mr0 _ bb.r1m
  have b3 := mc0 _ bb.c0m
  have b4 := mc0 _ bb.c1m
  obtain ⟨ble1, ble2⟩ := bb.le
  have step : ∀ (i : Int) (g : Sq → Int) (d : Dat), d ∈ q.map sq → ∃ p, d = sq p := fun i g d hd => by obtain ⟨p, _, e⟩ := List.mem_map.mp hd; exact ⟨p, e.symm⟩
  refine wss_setM 1 (Nc := C_bare_squares_0) (caps := Q_bare_squares_0) (l := q.map sq) (f := bName 0) (fun d => match d with | .tup [.int a, .int b] => .int a | _ => .non) sc_bare_squares.nd
    (compSc (psc := defScope s_bare_squares) (PN := N_bare_squares) (by decide +kernel) rfl rfl) rfl (wi_tup (px_var 0 rfl) ⟨rfl, rfl⟩) (fun C s' H' fp => pgd_name 0 (show C_bare_squares_0.Nodup by decide +kernel)) (bName_le rfl) (by rw [List.length_map]; omega) ?_ ?_
  · intro C s' H' fp G' d hd _
    obtain ⟨p, _, rfl⟩ := List.mem_map.mp hd
    exact ⟨_, rfl, px_ixT (px_var 0 rfl) px_int rfl⟩
  have e1 : (q.map sq).map (fun d => match d with | .tup [.int a, .int b] => Dat.int a | _ => .non) = (q.map (·.1)).map Dat.int := by
    rw [List.map_map, List.map_map]; rfl
  rw [e1]
  refine wss_setM 2 (Nc := C_bare_squares_1) (caps := Q_bare_squares_1) (l := q.map sq) (f := bName 0) (fun d => match d with | .tup [.int a, .int b] => .int b | _ => .non) sc_bare_squares.nd
    (compSc (psc := defScope s_bare_squares) (PN := N_bare_squares) (by decide +kernel) rfl rfl) rfl (wi_tup (px_var 0 rfl) ⟨rfl, rfl⟩) (fun C s' H' fp => pgd_name 0 (show C_bare_squares_1.Nodup by decide +kernel)) (bName_le rfl) (by rw [List.length_map]; omega) ?_ ?_
  · intro C s' H' fp G' d hd _
    obtain ⟨p, _, rfl⟩ := List.mem_map.mp hd
    exact ⟨_, rfl, px_ixT (px_var 0 rfl) px_int rfl⟩
  have e2 : (q.map sq).map (fun d => match d with | .tup [.int a, .int b] => Dat.int b | _ => .non) = (q.map (·.2)).map Dat.int := by
    rw [List.map_map, List.map_map]; rfl
  rw [e2]
  refine wss_ownL 3 sc_bare_squares.nd pxs_nil (fun p hG => ?_)
  refine wss_for (l := rangeD (r0 - 1) (r1 + 2 - (r0 - 1)).toNat) (fun i ρ' G' => ∃ (y4 y5 : Option Dat), ρ' = [some (fl q), some (.lst ((q.map (·.1)).map Dat.int)), some (.lst ((q.map (·.2)).map Dat.int)), some (.fn p), y4, y5] ∧
      G' = put G p (.lst (((boxL (r0 - 1) (c0 - 1) i (c1 + 2 - (c0 - 1)).toNat).filter fun z => !q.contains z).map sq))) PassesOwn.never rfl
    (wi_range2 rfl mr (px_sub (px_minL rfl mn (px_var 1 rfl) bb.r0m bb.r0l) px_int) (px_add (px_maxL rfl mx (px_var 1 rfl) bb.r1m bb.r1l) px_int) (by omega) ⟨rfl, none, none, rfl, rfl⟩) (pgd_name 4 sc_bare_squares.nd) ?_ ?_
  · rintro i dd ρ' G' hd ⟨y4, y5, rfl, rfl⟩
    obtain ⟨hlt, rfl⟩ := rangeD_get hd
    refine ⟨_, rfl, ?_⟩
    refine wss_for (l := rangeD (c0 - 1) (c1 + 2 - (c0 - 1)).toNat) (fun j ρ' G' => ∃ (y5 : Option Dat), ρ' = [some (fl q), some (.lst ((q.map (·.1)).map Dat.int)), some (.lst ((q.map (·.2)).map Dat.int)), some (.fn p), some (.int (r0 - 1 + (i : Nat))), y5] ∧
        G' = put G p (.lst (((boxL (r0 - 1) (c0 - 1) i (c1 + 2 - (c0 - 1)).toNat ++ (List.range j).map fun (j : Nat) => (r0 - 1 + (i : Nat), c0 - 1 + (j : Int))).filter fun z => !q.contains z).map sq))) PassesOwn.never rfl
      (wi_range2 rfl mr (px_sub (px_minL rfl mn (px_var 2 rfl) bb.c0m bb.c0l) px_int) (px_add (px_maxL rfl mx (px_var 2 rfl) bb.c1m bb.c1l) px_int) (by omega) ⟨rfl, y5, rfl, by simp⟩) (pgd_name 5 sc_bare_squares.nd) ?_ ?_
    · rintro j dd ρ' G' hd ⟨y5, rfl, rfl⟩
      obtain ⟨hlt2, rfl⟩ := rangeD_get hd
      have es : (List.range (j + 1)).map (fun (j : Nat) => ((r0 - 1 + (i : Nat), c0 - 1 + (j : Int)) : Sq)) = (List.range j).map (fun (j : Nat) => ((r0 - 1 + (i : Nat), c0 - 1 + (j : Int)) : Sq)) ++ [(r0 - 1 + (i : Nat), c0 - 1 + (j : Int))] := by
        rw [List.range_succ, List.map_append]; rfl
      refine ⟨_, rfl, wss_if (pxt_c (pxc_notInS hu (px_tup (pxs_cons (px_var 4 rfl) (pxs_cons (px_var 5 rfl) pxs_nil))) (px_var 0 rfl) (.inl rfl) (plain_sqD (r0 - 1 + (i : Nat), c0 - 1 + (j : Int))) (plain_sqsD q))) (fun hp => ?_) (fun hp => wss_nil (wss_nil ⟨_, rfl, ?_⟩))⟩
      · have hp' : (!q.contains (r0 - 1 + (i : Int), c0 - 1 + (j : Int))) = true := by rw [← any_sq]; exact hp
        refine wss_append (d := sq (r0 - 1 + (i : Int), c0 - 1 + (j : Int))) (px_var 3 rfl) (px_tup (pxs_cons (px_var 4 rfl) (pxs_cons (px_var 5 rfl) pxs_nil))) put_same ?_ (wss_nil (wss_nil ⟨_, rfl, ?_⟩))
        · rw [List.length_map]
          refine sz1 (Nat.le_trans (List.length_filter_le _ _) ?_)
          rw [List.length_append, box_len, List.length_map, List.length_range]
          have : i * (c1 + 2 - (c0 - 1)).toNat ≤ 10 * 10 := Nat.mul_le_mul (by omega) (by omega)
          omega
        · rw [put_put, es, ← List.append_assoc, fil_snoc _ _ _ hp']
      · have hp' : ¬ (!q.contains (r0 - 1 + (i : Int), c0 - 1 + (j : Int))) = true := by rw [← any_sq]; exact Bool.eq_false_iff.mp hp
        rw [es, ← List.append_assoc, fil_snocN _ _ _ hp']
    · rintro ρ' G' ⟨y5, rfl, rfl⟩
      rw [rangeD_len]
      refine wss_nil ⟨_, _, rfl, ?_⟩
      rw [box_succ]
  · rintro ρ' G' ⟨y4, y5, rfl, rfl⟩
    rw [rangeD_len]
    refine wss_retO (px_var 3 rfl) put_same ?_
    rw [rel_put hG]
    exact hR
theorem ok_has_hole (F : Fun K "has_hole" "has_hole" s_has_hole f fd) (ml : mg "len" = none) (FB : Df P w K mg base "bare_squares" P_bare_squares 1 spBare) (FR : Df P w K mg base "reached" P_reached 3 (spReached P w K mg base 2)) (FN : ∃ f', mg "all_around" = some (.ref f') ∧ DfA P w K mg base f' ["square"] 2 (spNb aaM)) : FnOk P w K mg base CX0 4 f fd P_has_hole (liftG K spHole) := by
  refine fn_d (k := 3) F sc_has_hole (fun ds G R h => ?_) (fun cdv A outer s H E ds G R hr h => ?_)
  · obtain ⟨q, r0, r1, c0, c1, rfl, _⟩ := h; rfl
  obtain ⟨q, r0, r1, c0, c1, rfl, gd, bb, hR⟩ := h
  obtain ⟨f', hm, FA⟩ := FN
  refine wss_set 1 sc_has_hole.nd (we_df FB (hr.mono (by omega)) (pxs_cons (px_var 0 rfl) pxs_nil) ⟨q, r0, r1, c0, c1, rfl, gd, bb, rfl, rfl⟩) ?_
  have hix : atI ((bareL q r0 r1 c0 c1).map sq) 0 = some (sq (r0 - 1, c0 - 1)) := by obtain ⟨r, e⟩ := bare_cons bb; rw [e]; exact atI_nat (j := 0) rfl
  refine wss_ret (px_c (pxc_lt (i := (card aaR (· ∈ bareL q r0 r1 c0 c1) (r0 - 1, c0 - 1) : Nat)) (j := ((bareL q r0 r1 c0 c1).length : Nat)) (we_rel (we_lenD ml (we_df FR hr (pxs_cons (px_ixL (px_var 1 rfl) px_int hix) (pxs_cons (px_var 1 rfl) (pxs_cons (px_fn hm) pxs_nil)))
    ⟨(r0 - 1, c0 - 1), bareL q r0 r1 c0 c1, _, f', aaM, rfl, .inr rfl, FA, ?_, fun p L hp hL => ⟨p, _, rfl, put_same, p, ?_, rel_put hp⟩⟩))) (px_len rfl ml (px_var 1 rfl) (by simp [lenD])))) hR
  · exact bare_le gd bb
  · rw [List.length_map, hL.card]
theorem ok_meet_by_corner_alone (F : Fun K "meet_by_corner_alone" "meet_by_corner_alone" s_meet_by_corner_alone f fd) : FnOk P w K mg base CX0 1 f fd P_meet_by_corner_alone (liftG K spMeet) := by
  refine fn_d (k := 0) F sc_meet_by_corner_alone (fun ds G R h => ?_) (fun cdv A outer s H E ds G R hr h => ?_)
  · obtain ⟨q, s, o, rfl, _⟩ := h; rfl
  obtain ⟨q, s', o, rfl, hR⟩ := h
  have hu : (A.deeper (envOfC "meet_by_corner_alone" (defScope s_meet_by_corner_alone) s.heap.objs.size f cdv)).units + 9 < cLine := by have := hr.units; omega
  refine wss_ret (px_and (px_c (pxc_inS hu (px_var 2 rfl) (px_var 0 rfl) (.inl rfl) (plain_sqD o) (plain_sqsD q))) fun _ => px_and (px_c (pxc_notInS hu (px_tup (pxs_cons (px_ixT (px_var 1 rfl) px_int rfl) (pxs_cons (px_ixT (px_var 2 rfl) px_int rfl) pxs_nil))) (px_var 0 rfl) (.inl rfl) (plain_sqD (s'.1, o.2)) (plain_sqsD q)))
    fun _ => px_one (px_c (pxc_notInS hu (px_tup (pxs_cons (px_ixT (px_var 2 rfl) px_int rfl) (pxs_cons (px_ixT (px_var 1 rfl) px_int rfl) pxs_nil))) (px_var 0 rfl) (.inl rfl) (plain_sqD (o.1, s'.2)) (plain_sqsD q)))) ?_
  have e1 := any_sq q o
  have e2 := any_sq q (s'.1, o.2)
  have e3 := any_sq q (o.1, s'.2)
  unfold meetB at hR
  rw [← e1, ← e2, ← e3] at hR
  exact hR
theorem ok_has_bare_corner (F : Fun K "has_bare_corner" "has_bare_corner" s_has_bare_corner f fd) (FM : Df P w K mg base "meet_by_corner_alone" P_meet_by_corner_alone 1 spMeet) (FC : Df P w K mg base "corner_neighbours" P_corner_neighbours 1 (spNb cnM)) : FnOk P w K mg base CX0 2 f fd P_has_bare_corner (liftG K (spF fun F => .bl (cornB F))) := by
  refine fn_d (k := 1) F sc_has_bare_corner (fun ds G R h => ?_) (fun cdv A outer s H E ds G R hr h => ?_)
  · obtain ⟨q, rfl, _⟩ := h; rfl
  obtain ⟨q, rfl, gd, hR⟩ := h
  replace hR : R (.bl (cornB q)) G := hR
  refine wss_for (l := q.map sq) (fun i ρ' G' => G = G' ∧ (∃ y1 y2, ρ' = [some (fl q), y1, y2]) ∧ ((q.take i).any fun s => (cnM s).any fun o => meetB q s o) = false) PassesOwn.never rfl (wi_tup (px_var 0 rfl) ⟨rfl, rfl, ⟨none, none, rfl⟩, by simp⟩) (pgd_name 1 sc_has_bare_corner.nd) ?_ ?_
  · rintro i dd ρ' G' hd ⟨rfl, ⟨y1, y2, rfl⟩, hno⟩
    rw [List.getElem?_map] at hd
    obtain ⟨x, hx, rfl⟩ := Option.map_eq_some_iff.mp hd
    refine ⟨_, rfl, ?_⟩
    refine wss_for (l := (cnM x).map sq) (fun j ρ' G' => G = G' ∧ (∃ y2, ρ' = [some (fl q), some (sq x), y2]) ∧ (((cnM x).take j).any fun o => meetB q x o) = false) PassesOwn.never rfl (wi_listE (we_df FC hr (pxs_cons (px_var 1 rfl) pxs_nil) ⟨x, rfl, _, rfl, rfl, rfl, ⟨y2, rfl⟩, by simp⟩)) (pgd_name 2 sc_has_bare_corner.nd) ?_ ?_
    · rintro j dd ρ' G' hd ⟨rfl, ⟨y2, rfl⟩, hno2⟩
      rw [List.getElem?_map] at hd
      obtain ⟨o, ho, rfl⟩ := Option.map_eq_some_iff.mp hd
      refine ⟨_, rfl, wss_if (pxt_val (we_df FM hr (pxs_cons (px_var 0 rfl) (pxs_cons (px_var 1 rfl) (pxs_cons (px_var 2 rfl) pxs_nil))) ⟨q, x, o, rfl, rfl, rfl⟩)) (fun hp => wss_ret px_bl ?_) (fun hp => wss_nil (wss_nil ⟨rfl, ⟨_, rfl⟩, ?_⟩))⟩
      · have : cornB q = true := by
          unfold cornB
          rw [List.any_eq_true]
          refine ⟨x, List.mem_of_getElem? hx, ?_⟩
          rw [List.any_eq_true]
          exact ⟨o, List.mem_of_getElem? ho, hp⟩
        rw [this] at hR
        exact hR
      · rw [List.take_add_one, ho, List.any_append, hno2]
        simp [hp]
    · rintro ρ' G' ⟨rfl, ⟨y2, rfl⟩, hno2⟩
      rw [List.length_map, List.take_length] at hno2
      refine wss_nil ⟨rfl, ⟨_, _, rfl⟩, ?_⟩
      rw [List.take_add_one, hx, List.any_append, hno]
      simp [hno2]
  · rintro ρ' G' ⟨rfl, ⟨y1, y2, rfl⟩, hno⟩
    rw [List.length_map, List.take_length] at hno
    refine wss_ret px_bl ?_
    have : cornB q = false := hno
    rw [this] at hR
    exact hR
theorem ok_is_plain (F : Fun K "is_plain" "is_plain" s_is_plain f fd) (ml : mg "len" = none) (F1 : Df P w K mg base "hangs_together" P_hangs_together 3 (spF fun F => .bl (hangB F))) (F2 : Df P w K mg base "has_hole" P_has_hole 4 spHole) (F3 : Df P w K mg base "has_bare_corner" P_has_bare_corner 2 (spF fun F => .bl (cornB F))) : FnOk P w K mg base CX0 5 f fd P_is_plain (liftG K (spF fun F => .bl (plainP F))) := by
  refine fn_d (k := 4) F sc_is_plain (fun ds G R h => ?_) (fun cdv A outer s H E ds G R hr h => ?_)
  · obtain ⟨q, rfl, _⟩ := h; rfl
  obtain ⟨q, rfl, gd, hR⟩ := h
  obtain ⟨r0, r1, c0, c1, bb⟩ := exBB gd.ne
  refine wss_if (pxt_c (pxc_eqI (px_len rfl ml (px_var 0 rfl) (lenD_fl _ _)) px_int)) (fun hp => ?_) (fun hp => wss_nil ?_)
  · exfalso
    have := List.length_pos_iff.mpr gd.ne
    rw [beq_iff_eq] at hp
    omega
  refine wss_ret (px_and (we_df F1 (hr.mono (by omega)) (pxs_cons (px_var 0 rfl) pxs_nil) ⟨q, rfl, gd, rfl, rfl⟩) fun _ => px_and (px_not (we_df F2 hr (pxs_cons (px_var 0 rfl) pxs_nil) ⟨q, r0, r1, c0, c1, rfl, gd, bb, rfl, rfl⟩)) fun _ => px_one (px_not (we_df F3 (hr.mono (by omega)) (pxs_cons (px_var 0 rfl) pxs_nil) ⟨q, rfl, gd, rfl, rfl⟩))) ?_
  rw [hole_eq gd bb]
  exact hR
end
end TF
--
set_option Elab.async false
set_option linter.all false
set_option maxRecDepth 100000
set_option maxHeartbeats 4000000
namespace TF
open PySem PySem.Spec L2
open PyProof.Rows hiding St RelV
section
variable {P : Program} {w : World} {K : PySem.W.Frag} {mg : Str → Option Value} {base : Heap} {f : Addr} {fd : FuncData}
theorem ok_law_near (F : Fun K "_law_near" "_law_near" s_law_near f fd) : FnOk P w K mg base CX0 1 f fd P_law_near (liftG K spNear) := by
  refine fn_d (k := 0) F sc_law_near (fun ds G R h => ?_) (fun cdv A outer s H E ds G R hr h => ?_)
  · obtain ⟨q, x, rfl, _⟩ := h; rfl
  obtain ⟨q, x, rfl, hR⟩ := h
  have hu : (A.deeper (envOfC "_law_near" (defScope s_law_near) s.heap.objs.size f cdv)).units + 9 < cLine := by have := hr.units; omega
  refine wss_unpack (f := bPair 2 3) (pgd_pair 2 3 rfl sc_law_near.nd) (px_var 1 rfl) rfl ?_
  refine wss_ret (px_compF (Nc := C_law_near_0) (caps := Q_law_near_0) (l := (nbM x).map sq) (f := bName 0) (fun d => (q.map sq).any fun e => eqD e d) id
    (compSc (psc := defScope s_law_near) (PN := N_law_near) (by decide +kernel) rfl rfl) rfl
    (wi_list (px_lst (pxs_cons (px_tup (pxs_cons (px_sub (px_var 2 rfl) px_int) (pxs_cons (px_var 3 rfl) pxs_nil))) (pxs_cons (px_tup (pxs_cons (px_var 2 rfl) (pxs_cons (px_sub (px_var 3 rfl) px_int) pxs_nil)))
      (pxs_cons (px_tup (pxs_cons (px_var 2 rfl) (pxs_cons (px_add (px_var 3 rfl) px_int) pxs_nil))) (pxs_cons (px_tup (pxs_cons (px_add (px_var 2 rfl) px_int) (pxs_cons (px_var 3 rfl) pxs_nil))) pxs_nil))))) ⟨rfl, rfl⟩)
    (fun C s' H' fp => pgd_name 0 (show C_law_near_0.Nodup by decide +kernel)) (bName_le rfl) (show 4 ≤ 5000 by decide) ?_) ?_
  · intro C s' H' fp G2 d hd kn
    obtain ⟨y, _, rfl⟩ := List.mem_map.mp hd
    exact ⟨_, rfl, pxt_c (pxc_inS hu (px_var 0 rfl) (px_var 1 rfl) (.inl rfl) (plain_sqD y) (plain_sqsD q)), fun _ => px_var 0 rfl⟩
  · rw [fil_sq]
    have : (fun y => (q.map sq).any fun e => eqD e (sq y)) = q.contains := funext fun y => any_sq q y
    rw [this]
    exact hR
theorem ok_law_hangs (F : Fun K "_law_hangs" "_law_hangs" s_law_hangs f fd) (ml : mg "len" = none) (FN : Df P w K mg base "_law_near" P_law_near 1 spNear) : FnOk P w K mg base CX0 2 f fd P_law_hangs (liftG K (spF fun F => .bl (hangB F))) := by
  refine fn_d (k := 1) F sc_law_hangs (fun ds G R h => ?_) (fun cdv A outer s H E ds G R hr h => ?_)
  · obtain ⟨q, rfl, _⟩ := h; rfl
  obtain ⟨q, rfl, gd, hR⟩ := h
  replace hR : R (.bl (hangB q)) G := hR
  have hu : (A.deeper (envOfC "_law_hangs" (defScope s_law_hangs) s.heap.objs.size f cdv)).units + 9 < cLine := by have := hr.units; omega
  have hql := gd.len
  have h0 : q.headD (0, 0) ∈ q := by
    cases q with
    | nil => exact absurd rfl gd.ne
    | cons a r => exact List.mem_cons_self ..
  refine wss_set 1 sc_law_hangs.nd (px_lst (pxs_cons (px_ixT (px_var 0 rfl) px_int (head_at gd)) pxs_nil)) ?_
  refine wss_set 2 sc_law_hangs.nd px_int ?_
  refine wss_while (fun m ρ' G' => G = G' ∧ ∃ (L : List Sq) (a : Nat), ρ' = [some (fl q), some (.lst (L.map sq)), some (.int (a : Nat))] ∧ L.Nodup ∧ q.headD (0, 0) ∈ L ∧ (∀ x ∈ L, Con nbR (· ∈ q) (q.headD (0, 0)) x) ∧ (∀ x ∈ L, x ∈ q) ∧ (∀ x ∈ L.take a, ∀ y ∈ nbM x, y ∈ q → y ∈ L) ∧ m = q.length - a ∧ a ≤ L.length) PassesOwn.never (m0 := q.length)
    ⟨rfl, [q.headD (0, 0)], 0, rfl, by simp, by simp, fun x hx => by rw [List.mem_singleton.mp hx]; exact .base, fun x hx => by rw [List.mem_singleton.mp hx]; exact h0, by simp, rfl, by simp⟩ ?_
  rintro m ρ' G' ⟨rfl, L, a, rfl, nd, hs, hc, hin, hcl, hm, hal⟩
  have hLl := nodup_le nd hin
  refine pxt_mono (pxt_c (pxc_lt (px_var 2 rfl) (px_len rfl ml (px_var 1 rfl) rfl))) ⟨fun hp => ?_, fun hp => ?_⟩
  · have hlt : a < L.length := by have := of_decide_eq_true hp; rw [List.length_map] at this; omega
    refine wss_set 1 sc_law_hangs.nd (px_cat (px_var 1 rfl) (px_compF (Nc := C_law_hangs_0) (caps := Q_law_hangs_0) (l := ((nbM L[a]).filter q.contains).map sq) (f := bName 0) (fun d => !((L.map sq).any fun e => eqD e d)) id
      (compSc (psc := defScope s_law_hangs) (PN := N_law_hangs) (by decide +kernel) rfl rfl) rfl
      (wi_listE (we_df FN hr (pxs_cons (px_var 0 rfl) (pxs_cons (px_ixL (px_var 1 rfl) (px_var 2 rfl) (atI_map sq (atI_nat (List.getElem?_eq_getElem hlt)))) pxs_nil)) ⟨q, L[a], rfl, _, rfl, rfl, rfl⟩))
      (fun C s' H' fp => pgd_name 0 (show C_law_hangs_0.Nodup by decide +kernel)) (bName_le rfl) ?_ ?_) ?_) ?_
    · rw [List.length_map]; exact Nat.le_trans (List.length_filter_le _ _) (show 4 ≤ 5000 by decide)
    · intro C s' H' fp G2 d hd kn
      obtain ⟨y, _, rfl⟩ := List.mem_map.mp hd
      exact ⟨_, rfl, pxt_c (pxc_notInS hu (px_var 0 rfl) (px_var 1 rfl) (.inr (.inl rfl)) (plain_sqD y) (plain_sqsD L)), fun _ => px_var 0 rfl⟩
    · rw [fil_sq, List.length_map, List.length_map]
      have := Nat.le_trans (List.length_filter_le (fun y => !((L.map sq).any fun e => eqD e (sq y))) ((nbM L[a]).filter q.contains)) (Nat.le_trans (List.length_filter_le _ _) (show 4 ≤ 5000 by decide))
      have h4 : (((nbM L[a]).filter q.contains).filter fun y => !((L.map sq).any fun e => eqD e (sq y))).length ≤ 4 := Nat.le_trans (List.length_filter_le _ _) (Nat.le_trans (List.length_filter_le _ _) (Nat.le_refl 4))
      exact sz (by omega)
    refine wss_set 2 sc_law_hangs.nd (PX.cast (d' := .int ((a + 1 : Nat) : Int)) (px_add (px_var 2 rfl) px_int) rfl) (wss_nil ?_)
    have ef : (fun y => !((L.map sq).any fun e => eqD e (sq y))) = fun y => !L.contains y := funext fun y => by rw [any_sq]
    have em : ∀ y, y ∈ (((nbM L[a]).filter q.contains).filter fun y => !L.contains y) ↔ y ∈ nbM L[a] ∧ y ∈ q ∧ y ∉ L := fun y => by
      simp only [List.mem_filter, List.contains_eq_mem, decide_eq_true_eq, Bool.not_eq_true', decide_eq_false_iff_not, and_assoc]
    refine ⟨q.length - (a + 1), by omega, rfl, L ++ (((nbM L[a]).filter q.contains).filter fun y => !L.contains y), a + 1, ?_, ?_, List.mem_append_left _ hs, ?_, ?_, ?_, rfl, by rw [List.length_append]; omega⟩
    · rw [fil_sq, ef, ← List.map_append]; rfl
    · rw [List.nodup_append]
      refine ⟨nd, ((nb_nodup _).filter _).filter _, fun x hx y hy e => ?_⟩
      subst e
      exact ((em x).mp hy).2.2 hx
    · intro x hx
      rcases List.mem_append.mp hx with h | h
      · exact hc x h
      · obtain ⟨h1, h2, _⟩ := (em x).mp h
        exact .step (hc _ (List.getElem_mem hlt)) h1 h2
    · intro x hx
      rcases List.mem_append.mp hx with h | h
      · exact hin x h
      · exact ((em x).mp h).2.1
    · intro x hx y h1 h2
      rw [List.take_append_of_le_length (by omega), List.take_add_one, List.getElem?_eq_getElem hlt] at hx
      rcases List.mem_append.mp hx with h | h
      · exact List.mem_append_left _ (hcl x h y h1 h2)
      · simp at h
        subst h
        by_cases hy : y ∈ L
        · exact List.mem_append_left _ hy
        · exact List.mem_append_right _ ((em y).mpr ⟨h1, h2, hy⟩)
  · have hge : a = L.length := by have := of_decide_eq_false hp; rw [List.length_map] at this; omega
    rw [hge, List.take_length] at hcl
    have rl : RL nbR (· ∈ q) (q.headD (0, 0)) L := rl_of nd hs hc hcl
    refine wss_ret (px_c (pxc_eqI (px_len rfl ml (px_var 1 rfl) rfl) (px_len rfl ml (px_var 0 rfl) (lenD_fl _ _)))) ?_
    unfold hangB at hR
    rw [rl.card] at hR
    rw [List.length_map]
    exact hR
theorem ok_law_no_hole (F : Fun K "_law_no_hole" "_law_no_hole" s_law_no_hole f fd) (ml : mg "len" = none) (mr : mg "range" = none) : FnOk P w K mg base CX0 1 f fd P_law_no_hole (liftG K (spF fun F => .bl (noHoleB F))) := by
  refine fn_d (k := 0) F sc_law_no_hole (fun ds G R h => ?_) (fun cdv A outer s H E ds G R hr h => ?_)
  · obtain ⟨q, rfl, _⟩ := h; rfl
  obtain ⟨q, rfl, gd, hR⟩ := h
  replace hR : R (.bl (noHoleB q)) G := hR
  have hu : (A.deeper (envOfC "_law_no_hole" (defScope s_law_no_hole) s.heap.objs.size f cdv)).units + 9 < cLine := by have := hr.units; omega
  refine wss_setE 1 sc_law_no_hole.nd (we_d1 (k := sq (-1, -1)) hu (fun _ _ => px_tup (pxs_cons (px_neg px_int) (pxs_cons (px_neg px_int) pxs_nil))) (fun _ _ => px_bl) (key_sq _) ⟨_, rfl⟩ (fun p1 hp1 => ?_))
  refine wss_ownL (ds := [sq (-1, -1)]) 2 sc_law_no_hole.nd (pxs_cons (px_tup (pxs_cons (px_neg px_int) (pxs_cons (px_neg px_int) pxs_nil))) pxs_nil) (fun p2 hp2 => ?_)
  have hne : p1 ≠ p2 := by rintro rfl; rw [put_same] at hp2; cases hp2
  have hp2' : G p2 = none := by rw [put_ne (Ne.symm hne)] at hp2; exact hp2
  have m1 : g2 q (-1, -1) := ⟨by decide, fun hm => by have := gd.inn _ hm; simp at this⟩
  have hsub : ∀ L : List Sq, L.Nodup → (∀ x ∈ L, Con n9R (g2 q) (-1, -1) x) → L.length ≤ 100 := fun L h1 h2 => by
    have := nodup_le h1 (m := boxL (-1) (-1) 10 10) fun x hx => mem_box.mpr (by have := ((h2 x hx).in m1).1; omega)
    rw [box_len] at this
    exact this
  refine wss_while (fun m ρ' G' => ∃ (L W : List Sq) (y3 y4 y5 y6 : Option Dat), ρ' = [some (fl q), some (.fn p1), some (.fn p2), y3, y4, y5, y6] ∧ G' = put (put G p1 (.dct (L.map kvT))) p2 (.lst (W.map sq)) ∧
      L.Nodup ∧ (-1, -1) ∈ L ∧ (∀ x ∈ L, Con n9R (g2 q) (-1, -1) x) ∧ (∀ x ∈ W, x ∈ L) ∧ (∀ x ∈ L, x ∈ W ∨ ∀ y ∈ n9 x, g2 q y → y ∈ L) ∧ m = 2 * (100 - L.length) + W.length ∧ m ≤ 200) PassesOwn.never
    (m0 := 2 * (100 - 1) + 1) ⟨[(-1, -1)], [(-1, -1)], none, none, none, none, rfl, rfl, by simp, by simp, fun x hx => by rw [List.mem_singleton.mp hx]; exact .base, fun x hx => hx, fun x hx => .inl hx, rfl, by omega⟩ ?_
  rintro m ρ' G' ⟨L, W, y3, y4, y5, y6, rfl, rfl, nd, hs, hc, hW, hcl, hm, hm2⟩
  refine pxt_mono (pxt_truthO (px_var 2 rfl) put_same rfl) ⟨fun hp => ?_, fun hp => ?_⟩
  · have hpos : 0 < W.length := by
      cases W with
      | nil => simp at hp
      | cons a r => simp
    obtain ⟨W0, x, rfl⟩ : ∃ W0 x, W = W0 ++ [x] := ⟨W.dropLast, W.getLast (List.ne_nil_of_length_pos hpos), (List.dropLast_concat_getLast _).symm⟩
    rw [List.length_append, List.length_singleton] at hm
    refine wss_unpackE (f := bPair 3 4) (pgd_pair 3 4 rfl sc_law_no_hole.nd) (we_pop (d := sq x) (l := W0.map sq) (px_var 2 rfl) (by rw [put_same, List.map_append]; rfl) ⟨_, rfl, ?_⟩)
    rw [put_put]
    have hx : x ∈ L := hW x (by simp)
    have hlen := hsub L nd hc
    refine wss_for (l := rangeD 0 9) (fun i ρ' G' => ∃ (L W : List Sq) (y5 y6 : Option Dat), ρ' = [some (fl q), some (.fn p1), some (.fn p2), some (.int x.1), some (.int x.2), y5, y6] ∧ G' = put (put G p1 (.dct (L.map kvT))) p2 (.lst (W.map sq)) ∧
        L.Nodup ∧ (-1, -1) ∈ L ∧ (∀ x ∈ L, Con n9R (g2 q) (-1, -1) x) ∧ (∀ x ∈ W, x ∈ L) ∧ x ∈ L ∧ (∀ z ∈ L, z ∈ W ∨ (∀ y ∈ n9 z, g2 q y → y ∈ L) ∨ z = x) ∧ (∀ y ∈ (n9 x).take i, g2 q y → y ∈ L) ∧ 2 * (100 - L.length) + W.length + 1 ≤ m) PassesOwn.never rfl
      (wi_range1 rfl mr px_int (by decide) (by decide) ⟨rfl, L, W0, y5, y6, rfl, rfl, nd, hs, hc, fun z hz => hW z (by simp [hz]), hx, ?_, by simp, by omega⟩) (pgd_name 5 sc_law_no_hole.nd) ?_ ?_
    · intro z hz
      rcases hcl z hz with h | h
      · rcases List.mem_append.mp h with h | h
        · exact .inl h
        · exact .inr (.inr (List.mem_singleton.mp h))
      · exact .inr (.inl h)
    · clear hlen hx hcl hW hc hs nd hm
      rintro i dd ρ' G' hd ⟨L, W, y5, y6, rfl, rfl, nd, hs, hc, hW, hx, hcl, hi, hm⟩
      obtain ⟨hlt, rfl⟩ := rangeD_get hd
      obtain ⟨y, hyd⟩ : ∃ y : Sq, y = (x.1 + ((i / 3 : Nat) : Int) - 1, x.2 + ((i % 3 : Nat) : Int) - 1) := ⟨_, rfl⟩
      have hy : (n9 x)[i]? = some y := by unfold n9; rw [List.getElem?_map, List.getElem?_range hlt, hyd]; rfl
      have hyn : y ∈ n9 x := List.mem_of_getElem? hy
      have et : (n9 x).take (i + 1) = (n9 x).take i ++ [y] := by rw [List.take_add_one, hy]; rfl
      have hG1 : put (put G p1 (.dct (L.map kvT))) p2 (.lst (W.map sq)) p1 = some (.dct (L.map kvT)) := by rw [put_ne hne, put_same]
      have hlen := hsub L nd hc
      refine ⟨_, rfl, ?_⟩
      refine wss_set 6 sc_law_no_hole.nd (PX.cast (d' := sq y) (px_tup (pxs_cons (px_sub (px_add (px_var 3 rfl) (px_fdiv (px_var 5 rfl) px_int ⟨by decide, by decide⟩)) px_int) (pxs_cons (px_sub (px_add (px_var 4 rfl) (px_mod (px_var 5 rfl) px_int (by decide))) px_int) pxs_nil))) ?_) ?_
      · rw [hyd]
        simp only [sq, Dat.tup.injEq, List.cons.injEq, Dat.int.injEq, and_true]
        omega
      refine wss_if (pxw_and (pxt_leLe (px_neg px_int) (px_ixT (px_var 6 rfl) px_int rfl) px_int) fun _ => pxw_and (pxt_leLe (px_neg px_int) (px_ixT (px_var 6 rfl) px_int rfl) px_int) fun _ => pxw_and (pxt_c (pxc_notInS hu (px_var 6 rfl) (px_var 0 rfl) (.inl rfl) (plain_sqD y) (plain_sqsD q))) fun _ => pxw_and1 (pxt_c (pxc_dnotin hu (px_var 6 rfl) (px_var 1 rfl) hG1 (key_sq y) ⟨_, rfl⟩))).t (fun hp => ?_) (fun hp => wss_nil (wss_nil ?_))
      · rw [any_sq, look_kv] at hp
        simp only [Bool.and_eq_true, Bool.not_eq_true', List.contains_eq_mem, decide_eq_true_eq, decide_eq_false_iff_not] at hp
        obtain ⟨⟨k1, k2⟩, ⟨k3, k4⟩, k5, hyL⟩ := hp
        have hyg : g2 q y := ⟨⟨k1, k2, k3, k4⟩, k5⟩
        refine wss_dput (d := .bl true) hu px_bl (px_var 1 rfl) (px_var 6 rfl) hG1 (key_sq y) ⟨_, rfl⟩ (by rw [List.length_map]; exact sz1 (by omega)) ?_
        rw [put_kv hyL]
        refine wss_append (d := sq y) (l := W.map sq) (px_var 2 rfl) (px_var 6 rfl) (by rw [put_ne (Ne.symm hne), put_same]) (by rw [List.length_map]; exact sz1 (by omega)) (wss_nil (wss_nil ?_))
        refine ⟨L ++ [y], W ++ [y], _, _, rfl, ?_, ?_, by simp [hs], ?_, ?_, by simp [hx], ?_, ?_, ?_⟩
        · rw [put4 hne]
          simp only [List.map_append, List.map_cons, List.map_nil]
        · rw [List.nodup_append]
          exact ⟨nd, by simp, fun a ha b hb e => by rw [List.mem_singleton.mp hb] at e; subst e; exact hyL ha⟩
        · intro z hz
          rcases List.mem_append.mp hz with h | h
          · exact hc z h
          · rw [List.mem_singleton.mp h]; exact .step (hc x hx) hyn hyg
        · intro z hz
          rcases List.mem_append.mp hz with h | h
          · exact List.mem_append_left _ (hW z h)
          · exact List.mem_append_right _ h
        · intro z hz
          rcases List.mem_append.mp hz with h | h
          · rcases hcl z h with h | h | h
            · exact .inl (List.mem_append_left _ h)
            · exact .inr (.inl fun y' h1 h2 => List.mem_append_left _ (h y' h1 h2))
            · exact .inr (.inr h)
          · exact .inl (List.mem_append_right _ h)
        · intro y' h1 h2
          rw [et] at h1
          rcases List.mem_append.mp h1 with h | h
          · exact List.mem_append_left _ (hi y' h h2)
          · exact List.mem_append_right _ h
        · have hlen' := hsub (L ++ [y]) (by
            rw [List.nodup_append]
            exact ⟨nd, by simp, fun a ha b hb e => by rw [List.mem_singleton.mp hb] at e; subst e; exact hyL ha⟩) (by
            intro z hz
            rcases List.mem_append.mp hz with h | h
            · exact hc z h
            · rw [List.mem_singleton.mp h]; exact .step (hc x hx) hyn hyg)
          simp only [List.length_append, List.length_singleton] at hlen' ⊢
          omega
      · rw [any_sq, look_kv] at hp
        refine ⟨L, W, _, _, rfl, rfl, nd, hs, hc, hW, hx, hcl, ?_, hm⟩
        intro y' h1 h2
        rw [et] at h1
        rcases List.mem_append.mp h1 with h | h
        · exact hi y' h h2
        · rw [List.mem_singleton.mp h] at h2 ⊢
          refine Classical.byContradiction fun hn => ?_
          obtain ⟨⟨k1, k2, k3, k4⟩, k5⟩ := h2
          simp [k1, k2, k3, k4, k5, hn] at hp
    · clear hlen hx hcl hW hc hs nd hm
      rintro ρ' G' ⟨L, W, y5, y6, rfl, rfl, nd, hs, hc, hW, hx, hcl, hi, hm⟩
      rw [rangeD_len, show (n9 x).take 9 = n9 x from List.take_of_length_le (by simp [n9])] at hi
      refine wss_nil ⟨_, hm, L, W, _, _, _, _, rfl, rfl, nd, hs, hc, hW, fun z hz => ?_, rfl, by omega⟩
      rcases hcl z hz with h | h | rfl
      · exact .inl h
      · exact .inr h
      · exact .inr hi
  · have hW0 : W = [] := by
      cases W with
      | nil => rfl
      | cons a r => simp at hp
    subst hW0
    have rl : RL n9R (g2 q) (-1, -1) L := rl_of nd hs hc fun x hx y h1 h2 => by
      rcases hcl x hx with h | h
      · cases h
      · exact h y h1 h2
    refine wss_retE (we_rel (we_rel (PX.we (px_c (pxc_eqI (px_lenD ml (px_var 1 rfl) (by rw [put_ne hne, put_same])) (px_sub px_int (px_len rfl ml (px_var 0 rfl) (lenD_fl _ _))))) ⟨p2, p1, ?_⟩)))
    rw [rel_put (by rw [put_ne (Ne.symm hne)]; exact hp2'), rel_put hp1, List.length_map]
    unfold noHoleB at hR
    rw [rl.card] at hR
    exact hR
theorem ok_law_no_pinch (F : Fun K "_law_no_pinch" "_law_no_pinch" s_law_no_pinch f fd) : FnOk P w K mg base CX0 1 f fd P_law_no_pinch (liftG K (spF fun F => .bl (!pinchB F))) := by
  refine fn_d (k := 0) F sc_law_no_pinch (fun ds G R h => ?_) (fun cdv A outer s H E ds G R hr h => ?_)
  · obtain ⟨q, rfl, _⟩ := h; rfl
  obtain ⟨q, rfl, gd, hR⟩ := h
  replace hR : R (.bl (!pinchB q)) G := hR
  have hu : (A.deeper (envOfC "_law_no_pinch" (defScope s_law_no_pinch) s.heap.objs.size f cdv)).units + 9 < cLine := by have := hr.units; omega
  refine wss_for (l := q.map sq) (f := bPair 1 2) (fun i ρ' G' => G = G' ∧ (∃ y1 y2 y3, ρ' = [some (fl q), y1, y2, y3]) ∧ ((q.take i).any fun s => [(-1 : Int), 1].any fun t => pinchAt q s t) = false) PassesOwn.never rfl (wi_tup (px_var 0 rfl) ⟨rfl, rfl, ⟨none, none, none, rfl⟩, by simp⟩) (pgd_pair 1 2 rfl sc_law_no_pinch.nd) ?_ ?_
  · rintro i dd ρ' G' hd ⟨rfl, ⟨y1, y2, y3, rfl⟩, hno⟩
    rw [List.getElem?_map] at hd
    obtain ⟨x, hx, rfl⟩ := Option.map_eq_some_iff.mp hd
    refine ⟨_, rfl, ?_⟩
    refine wss_for (l := [(-1 : Int), 1].map Dat.int) (fun j ρ' G' => G = G' ∧ (∃ y3, ρ' = [some (fl q), some (.int x.1), some (.int x.2), y3]) ∧ (([(-1 : Int), 1].take j).any fun t => pinchAt q x t) = false) PassesOwn.never rfl (wi_tup (px_tup (pxs_cons (px_neg px_int) (pxs_cons px_int pxs_nil))) ⟨rfl, rfl, ⟨y3, rfl⟩, by simp⟩) (pgd_name 3 sc_law_no_pinch.nd) ?_ ?_
    · rintro j dd ρ' G' hd ⟨rfl, ⟨y3, rfl⟩, hno2⟩
      rw [List.getElem?_map] at hd
      obtain ⟨o, ho, rfl⟩ := Option.map_eq_some_iff.mp hd
      have e1 := any_sq q (x.1 + 1, x.2 + o)
      have e2 := any_sq q (x.1, x.2 + o)
      have e3 := any_sq q (x.1 + 1, x.2)
      refine ⟨_, rfl, wss_if (p := pinchAt q x o) ?_ (fun hp => wss_ret px_bl ?_) (fun hp => wss_nil (wss_nil ⟨rfl, ⟨_, rfl⟩, ?_⟩))⟩
      · unfold pinchAt
        rw [← e1, ← e2, ← e3]
        exact (pxw_and (pxt_c (pxc_inS hu (px_tup (pxs_cons (px_add (px_var 1 rfl) px_int) (pxs_cons (px_add (px_var 2 rfl) (px_var 3 rfl)) pxs_nil))) (px_var 0 rfl) (.inl rfl) (plain_sqD (x.1 + 1, x.2 + o)) (plain_sqsD q))) fun _ => pxw_and (pxt_c (pxc_notInS hu (px_tup (pxs_cons (px_var 1 rfl) (pxs_cons (px_add (px_var 2 rfl) (px_var 3 rfl)) pxs_nil))) (px_var 0 rfl) (.inl rfl) (plain_sqD (x.1, x.2 + o)) (plain_sqsD q)))
          fun _ => pxw_and1 (pxt_c (pxc_notInS hu (px_tup (pxs_cons (px_add (px_var 1 rfl) px_int) (pxs_cons (px_var 2 rfl) pxs_nil))) (px_var 0 rfl) (.inl rfl) (plain_sqD (x.1 + 1, x.2)) (plain_sqsD q)))).t
      · have : pinchB q = true := by
          unfold pinchB
          rw [List.any_eq_true]
          refine ⟨x, List.mem_of_getElem? hx, ?_⟩
          rw [List.any_eq_true]
          exact ⟨o, List.mem_of_getElem? ho, hp⟩
        rw [this] at hR
        exact hR
      · rw [List.take_add_one, ho, List.any_append, hno2]
        simp [hp]
    · rintro ρ' G' ⟨rfl, ⟨y3, rfl⟩, hno2⟩
      rw [List.length_map, List.take_length] at hno2
      refine wss_nil ⟨rfl, ⟨_, _, _, rfl⟩, ?_⟩
      rw [List.take_add_one, hx, List.any_append, hno, Option.toList_some, List.any_cons, hno2]
      rfl
  · rintro ρ' G' ⟨rfl, ⟨y1, y2, y3, rfl⟩, hno⟩
    rw [List.length_map, List.take_length] at hno
    refine wss_ret px_bl ?_
    have : pinchB q = false := hno
    rw [this] at hR
    exact hR
theorem ok_law_plain (F : Fun K "_law_plain" "_law_plain" s_law_plain f fd) (F1 : Df P w K mg base "_law_hangs" P_law_hangs 2 (spF fun F => .bl (hangB F))) (F2 : Df P w K mg base "_law_no_hole" P_law_no_hole 1 (spF fun F => .bl (noHoleB F))) (F3 : Df P w K mg base "_law_no_pinch" P_law_no_pinch 1 (spF fun F => .bl (!pinchB F))) : FnOk P w K mg base CX0 3 f fd P_law_plain (liftG K (spF fun F => .bl (plainP F))) := by
  refine fn_d (k := 2) F sc_law_plain (fun ds G R h => ?_) (fun cdv A outer s H E ds G R hr h => ?_)
  · obtain ⟨q, rfl, _⟩ := h; rfl
  obtain ⟨q, rfl, gd, hR⟩ := h
  refine wss_ret (px_and (we_df F1 hr (pxs_cons (px_var 0 rfl) pxs_nil) ⟨q, rfl, gd, rfl, rfl⟩) fun _ => px_and (we_df F2 (hr.mono (by omega)) (pxs_cons (px_var 0 rfl) pxs_nil) ⟨q, rfl, gd, rfl, rfl⟩) fun _ => px_one (we_df F3 (hr.mono (by omega)) (pxs_cons (px_var 0 rfl) pxs_nil) ⟨q, rfl, gd, rfl, rfl⟩)) ?_
  rw [← corn_pinch]
  exact hR
end
end TF
--
set_option Elab.async false
set_option linter.all false
set_option maxRecDepth 100000
set_option maxHeartbeats 4000000
namespace TF
open PySem PySem.Spec L2
open PyProof.Rows hiding St RelV
section
variable {P : Program} {w : World} {K : PySem.W.Frag} {mg : Str → Option Value} {base : Heap} {f : Addr} {fd : FuncData}
theorem ok_law_ring (F : Fun K "_law_ring" "_law_ring" s_law_ring f fd) (ml : mg "len" = none) (mr : mg "range" = none) (mt : mg "tuple" = none) (FL : Df P w K mg base "_law_cell" P_law_cell 1 spCell) : FnOk P w K mg base CX0 2 f fd P_law_ring (liftG K spRing) := by
  refine fn_d (k := 1) F sc_law_ring (fun ds G R h => ?_) (fun cdv A outer s H E ds G R hr h => ?_)
  · obtain ⟨ns, rfl, _⟩ := h; rfl
  obtain ⟨ns, rfl, hR⟩ := h
  have hu : (A.deeper (envOfC "_law_ring" (defScope s_law_ring) s.heap.objs.size f cdv)).units + 9 < cLine := by have := hr.units; omega
  obtain ⟨h', hl, he⟩ := md (cellN ns 1) 4 (by decide)
  obtain ⟨w', wl, we⟩ := md (cellN ns 2) 4 (by decide)
  obtain ⟨hh, rfl⟩ : ∃ hh, hh = 2 + h' := ⟨_, rfl⟩
  obtain ⟨wd, ewd⟩ : ∃ wd, wd = 2 + w' := ⟨_, rfl⟩
  have m1 : 2 + h' ∈ [2, 3, 4, 5] := by simp; omega
  have m2 : wd ∈ [2, 3, 4, 5] := by simp; omega
  obtain ⟨s1, s2⟩ := ring_sz _ m1 _ m2
  refine wss_set 1 sc_law_ring.nd (PX.cast (d' := .int ((2 + h' : Nat) : Int)) (px_add px_int (px_mod (px_cellE (k := 1) FL hr (px_var 0 rfl) px_int) px_int (by decide))) (by have e' : cellN ns 1 % 4 = h' := he; rw [e']; congr 1)) ?_
  refine wss_set 2 sc_law_ring.nd (PX.cast (d' := .int ((wd : Nat) : Int)) (px_add px_int (px_mod (px_cellE (k := 2) FL hr (px_var 0 rfl) px_int) px_int (by decide))) (by have e' : cellN ns 2 % 4 = w' := we; rw [e', ewd]; congr 1)) ?_
  generalize 2 + h' = hh at *
  have bh : hh ≤ 5 := by simp at m1; omega
  have bw : wd ≤ 5 := by simp at m2; omega
  refine wss_set 3 sc_law_ring.nd (px_lst pxs_nil) ?_
  refine wss_for (l := rangeD 0 (hh + 1)) (fun i ρ' G' => G = G' ∧ ∃ x, ρ' = [some (.scr ns), some (.int (hh : Nat)), some (.int (wd : Nat)), some (.lst ((ringL i hh wd).map sq)), x, none]) PassesOwn.never rfl
    (wi_range1 rfl mr (PX.cast (d' := .int ((hh + 1 : Nat) : Int)) (px_add (px_var 1 rfl) px_int) rfl) (by omega) (by omega) ⟨by rw [Int.toNat_natCast], rfl, none, rfl⟩) (pgd_name 4 sc_law_ring.nd) ?_ ?_
  · rintro i dd ρ' G' hd ⟨rfl, x, rfl⟩
    obtain ⟨hlt, rfl⟩ := rangeD_get hd
    refine ⟨_, rfl, ?_⟩
    refine wss_set 3 sc_law_ring.nd (px_cat (px_var 3 rfl) (px_compF (Nc := C_law_ring_0) (caps := Q_law_ring_0) (l := rangeD 0 (wd + 1)) (f := bName 0)
      (fun d => ([Dat.int 0, .int (hh : Nat)].any fun e => eqD e (.int (0 + (i : Nat)))) || ([Dat.int 0, .int (wd : Nat)].any fun e => eqD e d)) (fun d => match d with | .int j => sq (0 + (i : Int) + 1, j + 1) | _ => .non)
      (compSc (psc := defScope s_law_ring) (PN := N_law_ring) (by decide +kernel) rfl rfl) rfl (wi_range1 rfl mr (PX.cast (d' := .int ((wd + 1 : Nat) : Int)) (px_add (px_var 2 rfl) px_int) rfl) (by omega) (by omega) ⟨by rw [Int.toNat_natCast], rfl⟩)
      (fun C s' H' fp => pgd_name 0 (show C_law_ring_0.Nodup by decide +kernel)) (bName_le rfl) (by rw [rangeD_len]; omega) ?_) ?_) (wss_nil ⟨rfl, some (.int (0 + (i : Nat))), ?_⟩)
    · intro C s' H' fp G' x hx _
      obtain ⟨j, _, rfl⟩ := rangeD_mem hx
      exact ⟨_, rfl, (pxw_or (pxt_c (pxc_inS hu (px_var 2 rfl) (px_tup (pxs_cons px_int (pxs_cons (px_var 1 rfl) pxs_nil))) (.inl rfl) rfl rfl)) fun _ => pxw_or1 (pxt_c (pxc_inS hu (px_var 0 rfl) (px_tup (pxs_cons px_int (pxs_cons (px_var 3 rfl) pxs_nil))) (.inl rfl) rfl rfl))).t,
        fun _ => px_tup (pxs_cons (px_add (px_var 2 rfl) px_int) (pxs_cons (px_add (px_var 0 rfl) px_int) pxs_nil))⟩
    · rw [List.length_map, List.length_map]
      have h1 : (ringL i hh wd).length ≤ i * (wd + 1) := Nat.le_trans (List.length_filter_le _ _) (by rw [box_len]; exact Nat.le_refl _)
      have h2 : i * (wd + 1) ≤ 6 * 6 := Nat.mul_le_mul (by omega) (by omega)
      have h3 := List.length_filter_le (fun d => ([Dat.int 0, .int (hh : Nat)].any fun e => eqD e (.int (0 + (i : Nat)))) || ([Dat.int 0, .int (wd : Nat)].any fun e => eqD e d)) (rangeD 0 (wd + 1))
      rw [rangeD_len] at h3
      exact sz (by omega)
    · refine congrArg (fun z => [some (.scr ns), some (.int (hh : Nat)), some (.int (wd : Nat)), some (Dat.lst z), some (.int (0 + (i : Nat))), none]) ?_
      unfold ringL
      rw [box_succ, List.filter_append, List.map_append]
      congr 1
      unfold rangeD
      rw [List.filter_map, List.map_map, List.filter_map, List.map_map]
      have e1 : ∀ j : Nat, ((fun d => ([Dat.int 0, .int (hh : Nat)].any fun e => eqD e (.int (0 + (i : Nat)))) || ([Dat.int 0, .int (wd : Nat)].any fun e => eqD e d)) ∘ fun (i : Nat) => Dat.int (0 + (i : Int))) j = (bordB hh wd ∘ fun (j : Nat) => (1 + (i : Int), 1 + (j : Int))) j := by
        intro j
        simp only [Function.comp, List.any_cons, List.any_nil, Bool.or_false, eqD, bordB]
        rw [Bool.eq_iff_iff]
        simp only [Bool.or_eq_true, beq_iff_eq, decide_eq_true_eq]
        omega
      rw [List.filter_congr (fun j _ => e1 j)]
      refine List.map_congr_left fun j _ => ?_
      simp only [Function.comp, sq, Dat.tup.injEq, List.cons.injEq, Dat.int.injEq, and_true]
      omega
  rintro ρ' G' ⟨rfl, x, rfl⟩
  rw [rangeD_len]
  generalize hL : ringL (hh + 1) hh wd = L at *
  obtain ⟨ix, ixl, ixe⟩ := md (cellN ns 3) L.length (by omega)
  have hfin : ∀ gone : List Sq, gone.length ≤ 2 → R (fl (L.filter fun q => !gone.contains q)) G := fun gone h => hR _ (by rw [← hL]; exact good_ring m1 m2 gone h)
  refine wss_set 5 sc_law_ring.nd (PX.cast (d' := .lst (([L[ix], (1 + cellN ns 4 % 3, 1)] : List Sq).map sq)) (px_lst (pxs_cons (px_ixL (px_var 3 rfl) (PX.cast (px_mod (px_cellE (k := 3) FL hr (px_var 0 rfl) px_int) (px_len rfl ml (px_var 3 rfl) rfl) (by rw [List.length_map]; omega)) (by rw [List.length_map, ixe])) (atI_map sq (atI_nat (List.getElem?_eq_getElem ixl))))
    (pxs_cons (px_tup (pxs_cons (px_add px_int (px_mod (px_cellE (k := 4) FL hr (px_var 0 rfl) px_int) px_int (by decide))) (pxs_cons px_int pxs_nil))) pxs_nil))) rfl) ?_
  refine wss_ifM (fun ρ' G' => G = G' ∧ ∃ gone : List Sq, gone.length ≤ 2 ∧ ρ' = [some (.scr ns), some (.int (hh : Nat)), some (.int (wd : Nat)), some (.lst (L.map sq)), x, some (.lst (gone.map sq))])
    (pxt_c (pxc_eqI (px_mod (px_cellE (k := 5) FL hr (px_var 0 rfl) px_int) px_int (by decide)) px_int)) (fun hp => ?_) (fun hp => wss_nil ⟨rfl, _, Nat.le_refl _, rfl⟩) (fun ρ' G' hM => ?_)
  · refine wss_set 5 sc_law_ring.nd (px_sliceL (ol := some 1) (oh := none) (px_var 5 rfl) px_int trivial) (wss_nil ⟨rfl, [(1 + cellN ns 4 % 3, 1)], (by show 1 ≤ 2; decide), ?_⟩)
    rw [cut1]
    rfl
  obtain ⟨rfl, gone, hg, rfl⟩ := hM
  refine wss_ifM (fun ρ' G' => G = G' ∧ ∃ gone : List Sq, gone.length ≤ 2 ∧ ρ' = [some (.scr ns), some (.int (hh : Nat)), some (.int (wd : Nat)), some (.lst (L.map sq)), x, some (.lst (gone.map sq))])
    (pxt_c (pxc_eqI (px_mod (px_cellE (k := 5) FL hr (px_var 0 rfl) px_int) px_int (by decide)) px_int)) (fun hp => ?_) (fun hp => wss_nil ⟨rfl, gone, hg, rfl⟩) (fun ρ' G' hM => ?_)
  · exact wss_set 5 sc_law_ring.nd (px_lst pxs_nil) (wss_nil ⟨rfl, [], by decide, rfl⟩)
  obtain ⟨rfl, gone, hg, rfl⟩ := hM
  refine wss_ret (PX.cast (d' := fl (L.filter fun q => !gone.contains q)) (px_tupleL rfl mt Boot.«tuple» (px_compF (Nc := C_law_ring_1) (caps := Q_law_ring_1) (l := L.map sq) (f := bName 0) (fun d => !((gone.map sq).any fun e => eqD e d)) id
    (compSc (psc := defScope s_law_ring) (PN := N_law_ring) (by decide +kernel) rfl rfl) rfl (wi_list (px_var 3 rfl) ⟨rfl, rfl⟩)
      (fun C s' H' fp => pgd_name 0 (show C_law_ring_1.Nodup by decide +kernel)) (bName_le rfl) (by rw [List.length_map]; omega) ?_)) ?_) (hfin gone hg)
  · intro C s' H' fp G2 d hd kn
    obtain ⟨q, _, rfl⟩ := List.mem_map.mp hd
    exact ⟨_, rfl, pxt_c (pxc_notInS hu (px_var 0 rfl) (px_var 1 rfl) (.inr (.inl rfl)) (plain_sqD q) (plain_sqsD gone)), fun _ => px_var 0 rfl⟩
  · rw [fil_sq]
    unfold fl
    congr 3
    funext q
    rw [any_sq]
theorem ok_law (F : Fun K "law" "law" s_law f fd) (mi : mg "isinstance" = none) (mb : mg "bool" = none) (FL : Df P w K mg base "_law_cell" P_law_cell 1 spCell) (FF : Df P w K mg base "_law_floor" P_law_floor 2 spFloor) (FR : Df P w K mg base "_law_ring" P_law_ring 2 spRing)
    (FP : Df P w K mg base "is_plain" P_is_plain 5 (spF fun F => .bl (plainP F))) (FQ : Df P w K mg base "_law_plain" P_law_plain 3 (spF fun F => .bl (plainP F))) : FnOk P w K mg base CX0 6 f fd P_law (liftG K spTrue) := by
  refine fn_d (k := 5) F sc_law (fun ds G R h => ?_) (fun cdv A outer s H E ds G R hr h => ?_)
  · obtain ⟨ns, rfl, _⟩ := h; rfl
  obtain ⟨ns, rfl, hR⟩ := h
  have hu : (A.deeper (envOfC "law" (defScope s_law) s.heap.objs.size f cdv)).units + 9 < cLine := by have := hr.units; omega
  refine wss_setE 1 sc_law.nd (we_df FF (hr.mono (by omega)) (pxs_cons (px_var 0 rfl) (pxs_cons px_int pxs_nil)) ⟨ns, 3, rfl, fun q gd => ?_⟩)
  refine wss_ifM (fun ρ' G' => G = G' ∧ ∃ q, Good q ∧ ρ' = [some (.scr ns), some (fl q), none]) (pxt_c (pxc_eqI (px_mod (px_cellE (k := 0) FL (hr.mono (by omega)) (px_var 0 rfl) px_int) px_int (by decide)) px_int)) (fun hp => ?_) (fun hp => wss_nil ⟨rfl, q, gd, rfl⟩) (fun ρ' G' hM => ?_)
  · exact wss_setE 1 sc_law.nd (we_df FR (hr.mono (by omega)) (pxs_cons (px_var 0 rfl) pxs_nil) ⟨ns, rfl, fun q gd => wss_nil ⟨rfl, q, gd, rfl⟩⟩)
  obtain ⟨rfl, q, gd, rfl⟩ := hM
  refine wss_set 2 sc_law.nd (we_df FP hr (pxs_cons (px_var 1 rfl) pxs_nil) ⟨q, rfl, gd, rfl, rfl⟩) ?_
  refine wss_ret (px_and (px_isi (T := "bool") (T' := "bool") mi mb (px_var 2 rfl)) fun _ => px_one (px_c (pxc_eq hu (px_var 2 rfl) (we_df FQ (hr.mono (by omega)) (pxs_cons (px_var 1 rfl) pxs_nil) ⟨q, rfl, gd, rfl, rfl⟩) rfl rfl))) ?_
  have e : (isS "bool" "bool" && eqD (.bl (plainP q)) (.bl (plainP q))) = true := by simp [isS, eqD]
  rw [e]
  exact hR
end
end TF
set_option Elab.async false
set_option linter.all false
set_option maxRecDepth 100000
set_option maxHeartbeats 4000000
namespace TF
open PySem PySem.Spec L2
open PyProof.Rows hiding St RelV
theorem all_mk {l : PySem.W.OpenLaw} {w : World} {K : PySem.W.Frag} {h : Heap} {mg : Str → Option Value} {fa : Addr} (X : K.In h) (G : h.Ns mainGlobals mg) (hfa : mg "law" = some (.ref fa))
    {f0 : Addr} {od0 an0 : Option Addr} {sl0 : Array (Option Value)} {oc0 kV0 dc0 pm0 cd0 ct0 : Value} (a0 : PySem.W.nsIn K mainGlobals "neighbours" = some (some (.ref f0))) (l0 : K.lookup f0 = some ⟨oc0, od0, .func (PySem.W.fnOf "neighbours" "neighbours" (defArgs s_neighbours) (defBody s_neighbours) (defScope s_neighbours) .none kV0 dc0 pm0 an0 cd0 ct0), sl0⟩) (c0 : PySem.W.codeIn K cd0 "neighbours" = true) (k0 : PySem.W.keepIn K (.ref f0) = true)
    {f1 : Addr} {od1 an1 : Option Addr} {sl1 : Array (Option Value)} {oc1 kV1 dc1 pm1 cd1 ct1 : Value} (a1 : PySem.W.nsIn K mainGlobals "corner_neighbours" = some (some (.ref f1))) (l1 : K.lookup f1 = some ⟨oc1, od1, .func (PySem.W.fnOf "corner_neighbours" "corner_neighbours" (defArgs s_corner_neighbours) (defBody s_corner_neighbours) (defScope s_corner_neighbours) .none kV1 dc1 pm1 an1 cd1 ct1), sl1⟩) (c1 : PySem.W.codeIn K cd1 "corner_neighbours" = true) (k1 : PySem.W.keepIn K (.ref f1) = true)
    {f2 : Addr} {od2 an2 : Option Addr} {sl2 : Array (Option Value)} {oc2 kV2 dc2 pm2 cd2 ct2 : Value} (a2 : PySem.W.nsIn K mainGlobals "all_around" = some (some (.ref f2))) (l2 : K.lookup f2 = some ⟨oc2, od2, .func (PySem.W.fnOf "all_around" "all_around" (defArgs s_all_around) (defBody s_all_around) (defScope s_all_around) .none kV2 dc2 pm2 an2 cd2 ct2), sl2⟩) (c2 : PySem.W.codeIn K cd2 "all_around" = true) (k2 : PySem.W.keepIn K (.ref f2) = true)
    {f3 : Addr} {od3 an3 : Option Addr} {sl3 : Array (Option Value)} {oc3 kV3 dc3 pm3 cd3 ct3 : Value} (a3 : PySem.W.nsIn K mainGlobals "reached" = some (some (.ref f3))) (l3 : K.lookup f3 = some ⟨oc3, od3, .func (PySem.W.fnOf "reached" "reached" (defArgs s_reached) (defBody s_reached) (defScope s_reached) .none kV3 dc3 pm3 an3 cd3 ct3), sl3⟩) (c3 : PySem.W.codeIn K cd3 "reached" = true) (k3 : PySem.W.keepIn K (.ref f3) = true)
    {f4 : Addr} {od4 an4 : Option Addr} {sl4 : Array (Option Value)} {oc4 kV4 dc4 pm4 cd4 ct4 : Value} (a4 : PySem.W.nsIn K mainGlobals "hangs_together" = some (some (.ref f4))) (l4 : K.lookup f4 = some ⟨oc4, od4, .func (PySem.W.fnOf "hangs_together" "hangs_together" (defArgs s_hangs_together) (defBody s_hangs_together) (defScope s_hangs_together) .none kV4 dc4 pm4 an4 cd4 ct4), sl4⟩) (c4 : PySem.W.codeIn K cd4 "hangs_together" = true) (k4 : PySem.W.keepIn K (.ref f4) = true)
    {f5 : Addr} {od5 an5 : Option Addr} {sl5 : Array (Option Value)} {oc5 kV5 dc5 pm5 cd5 ct5 : Value} (a5 : PySem.W.nsIn K mainGlobals "bare_squares" = some (some (.ref f5))) (l5 : K.lookup f5 = some ⟨oc5, od5, .func (PySem.W.fnOf "bare_squares" "bare_squares" (defArgs s_bare_squares) (defBody s_bare_squares) (defScope s_bare_squares) .none kV5 dc5 pm5 an5 cd5 ct5), sl5⟩) (c5 : PySem.W.codeIn K cd5 "bare_squares" = true) (k5 : PySem.W.keepIn K (.ref f5) = true)
    {f6 : Addr} {od6 an6 : Option Addr} {sl6 : Array (Option Value)} {oc6 kV6 dc6 pm6 cd6 ct6 : Value} (a6 : PySem.W.nsIn K mainGlobals "has_hole" = some (some (.ref f6))) (l6 : K.lookup f6 = some ⟨oc6, od6, .func (PySem.W.fnOf "has_hole" "has_hole" (defArgs s_has_hole) (defBody s_has_hole) (defScope s_has_hole) .none kV6 dc6 pm6 an6 cd6 ct6), sl6⟩) (c6 : PySem.W.codeIn K cd6 "has_hole" = true) (k6 : PySem.W.keepIn K (.ref f6) = true)
    {f7 : Addr} {od7 an7 : Option Addr} {sl7 : Array (Option Value)} {oc7 kV7 dc7 pm7 cd7 ct7 : Value} (a7 : PySem.W.nsIn K mainGlobals "meet_by_corner_alone" = some (some (.ref f7))) (l7 : K.lookup f7 = some ⟨oc7, od7, .func (PySem.W.fnOf "meet_by_corner_alone" "meet_by_corner_alone" (defArgs s_meet_by_corner_alone) (defBody s_meet_by_corner_alone) (defScope s_meet_by_corner_alone) .none kV7 dc7 pm7 an7 cd7 ct7), sl7⟩) (c7 : PySem.W.codeIn K cd7 "meet_by_corner_alone" = true) (k7 : PySem.W.keepIn K (.ref f7) = true)
    {f8 : Addr} {od8 an8 : Option Addr} {sl8 : Array (Option Value)} {oc8 kV8 dc8 pm8 cd8 ct8 : Value} (a8 : PySem.W.nsIn K mainGlobals "has_bare_corner" = some (some (.ref f8))) (l8 : K.lookup f8 = some ⟨oc8, od8, .func (PySem.W.fnOf "has_bare_corner" "has_bare_corner" (defArgs s_has_bare_corner) (defBody s_has_bare_corner) (defScope s_has_bare_corner) .none kV8 dc8 pm8 an8 cd8 ct8), sl8⟩) (c8 : PySem.W.codeIn K cd8 "has_bare_corner" = true) (k8 : PySem.W.keepIn K (.ref f8) = true)
    {f9 : Addr} {od9 an9 : Option Addr} {sl9 : Array (Option Value)} {oc9 kV9 dc9 pm9 cd9 ct9 : Value} (a9 : PySem.W.nsIn K mainGlobals "is_plain" = some (some (.ref f9))) (l9 : K.lookup f9 = some ⟨oc9, od9, .func (PySem.W.fnOf "is_plain" "is_plain" (defArgs s_is_plain) (defBody s_is_plain) (defScope s_is_plain) .none kV9 dc9 pm9 an9 cd9 ct9), sl9⟩) (c9 : PySem.W.codeIn K cd9 "is_plain" = true) (k9 : PySem.W.keepIn K (.ref f9) = true)
    {f10 : Addr} {od10 an10 : Option Addr} {sl10 : Array (Option Value)} {oc10 kV10 dc10 pm10 cd10 ct10 : Value} (a10 : PySem.W.nsIn K mainGlobals "_law_cell" = some (some (.ref f10))) (l10 : K.lookup f10 = some ⟨oc10, od10, .func (PySem.W.fnOf "_law_cell" "_law_cell" (defArgs s_law_cell) (defBody s_law_cell) (defScope s_law_cell) .none kV10 dc10 pm10 an10 cd10 ct10), sl10⟩) (c10 : PySem.W.codeIn K cd10 "_law_cell" = true) (k10 : PySem.W.keepIn K (.ref f10) = true)
    {f11 : Addr} {od11 an11 : Option Addr} {sl11 : Array (Option Value)} {oc11 kV11 dc11 pm11 cd11 ct11 : Value} (a11 : PySem.W.nsIn K mainGlobals "_law_mix" = some (some (.ref f11))) (l11 : K.lookup f11 = some ⟨oc11, od11, .func (PySem.W.fnOf "_law_mix" "_law_mix" (defArgs s_law_mix) (defBody s_law_mix) (defScope s_law_mix) .none kV11 dc11 pm11 an11 cd11 ct11), sl11⟩) (c11 : PySem.W.codeIn K cd11 "_law_mix" = true) (k11 : PySem.W.keepIn K (.ref f11) = true)
    {f12 : Addr} {od12 an12 : Option Addr} {sl12 : Array (Option Value)} {oc12 kV12 dc12 pm12 cd12 ct12 : Value} (a12 : PySem.W.nsIn K mainGlobals "_law_floor" = some (some (.ref f12))) (l12 : K.lookup f12 = some ⟨oc12, od12, .func (PySem.W.fnOf "_law_floor" "_law_floor" (defArgs s_law_floor) (defBody s_law_floor) (defScope s_law_floor) .none kV12 dc12 pm12 an12 cd12 ct12), sl12⟩) (c12 : PySem.W.codeIn K cd12 "_law_floor" = true) (k12 : PySem.W.keepIn K (.ref f12) = true)
    {f13 : Addr} {od13 an13 : Option Addr} {sl13 : Array (Option Value)} {oc13 kV13 dc13 pm13 cd13 ct13 : Value} (a13 : PySem.W.nsIn K mainGlobals "_law_near" = some (some (.ref f13))) (l13 : K.lookup f13 = some ⟨oc13, od13, .func (PySem.W.fnOf "_law_near" "_law_near" (defArgs s_law_near) (defBody s_law_near) (defScope s_law_near) .none kV13 dc13 pm13 an13 cd13 ct13), sl13⟩) (c13 : PySem.W.codeIn K cd13 "_law_near" = true) (k13 : PySem.W.keepIn K (.ref f13) = true)
    {f14 : Addr} {od14 an14 : Option Addr} {sl14 : Array (Option Value)} {oc14 kV14 dc14 pm14 cd14 ct14 : Value} (a14 : PySem.W.nsIn K mainGlobals "_law_hangs" = some (some (.ref f14))) (l14 : K.lookup f14 = some ⟨oc14, od14, .func (PySem.W.fnOf "_law_hangs" "_law_hangs" (defArgs s_law_hangs) (defBody s_law_hangs) (defScope s_law_hangs) .none kV14 dc14 pm14 an14 cd14 ct14), sl14⟩) (c14 : PySem.W.codeIn K cd14 "_law_hangs" = true) (k14 : PySem.W.keepIn K (.ref f14) = true)
    {f15 : Addr} {od15 an15 : Option Addr} {sl15 : Array (Option Value)} {oc15 kV15 dc15 pm15 cd15 ct15 : Value} (a15 : PySem.W.nsIn K mainGlobals "_law_no_hole" = some (some (.ref f15))) (l15 : K.lookup f15 = some ⟨oc15, od15, .func (PySem.W.fnOf "_law_no_hole" "_law_no_hole" (defArgs s_law_no_hole) (defBody s_law_no_hole) (defScope s_law_no_hole) .none kV15 dc15 pm15 an15 cd15 ct15), sl15⟩) (c15 : PySem.W.codeIn K cd15 "_law_no_hole" = true) (k15 : PySem.W.keepIn K (.ref f15) = true)
    {f16 : Addr} {od16 an16 : Option Addr} {sl16 : Array (Option Value)} {oc16 kV16 dc16 pm16 cd16 ct16 : Value} (a16 : PySem.W.nsIn K mainGlobals "_law_no_pinch" = some (some (.ref f16))) (l16 : K.lookup f16 = some ⟨oc16, od16, .func (PySem.W.fnOf "_law_no_pinch" "_law_no_pinch" (defArgs s_law_no_pinch) (defBody s_law_no_pinch) (defScope s_law_no_pinch) .none kV16 dc16 pm16 an16 cd16 ct16), sl16⟩) (c16 : PySem.W.codeIn K cd16 "_law_no_pinch" = true) (k16 : PySem.W.keepIn K (.ref f16) = true)
    {f17 : Addr} {od17 an17 : Option Addr} {sl17 : Array (Option Value)} {oc17 kV17 dc17 pm17 cd17 ct17 : Value} (a17 : PySem.W.nsIn K mainGlobals "_law_plain" = some (some (.ref f17))) (l17 : K.lookup f17 = some ⟨oc17, od17, .func (PySem.W.fnOf "_law_plain" "_law_plain" (defArgs s_law_plain) (defBody s_law_plain) (defScope s_law_plain) .none kV17 dc17 pm17 an17 cd17 ct17), sl17⟩) (c17 : PySem.W.codeIn K cd17 "_law_plain" = true) (k17 : PySem.W.keepIn K (.ref f17) = true)
    {f18 : Addr} {od18 an18 : Option Addr} {sl18 : Array (Option Value)} {oc18 kV18 dc18 pm18 cd18 ct18 : Value} (a18 : PySem.W.nsIn K mainGlobals "_law_ring" = some (some (.ref f18))) (l18 : K.lookup f18 = some ⟨oc18, od18, .func (PySem.W.fnOf "_law_ring" "_law_ring" (defArgs s_law_ring) (defBody s_law_ring) (defScope s_law_ring) .none kV18 dc18 pm18 an18 cd18 ct18), sl18⟩) (c18 : PySem.W.codeIn K cd18 "_law_ring" = true) (k18 : PySem.W.keepIn K (.ref f18) = true)
    {f19 : Addr} {od19 an19 : Option Addr} {sl19 : Array (Option Value)} {oc19 kV19 dc19 pm19 cd19 ct19 : Value} (a19 : PySem.W.nsIn K mainGlobals "law" = some (some (.ref f19))) (l19 : K.lookup f19 = some ⟨oc19, od19, .func (PySem.W.fnOf "law" "law" (defArgs s_law) (defBody s_law) (defScope s_law) .none kV19 dc19 pm19 an19 cd19 ct19), sl19⟩) (c19 : PySem.W.codeIn K cd19 "law" = true) (k19 : PySem.W.keepIn K (.ref f19) = true)
    (z_len : PySem.W.nsIn K mainGlobals "len" = some none) (z_range : PySem.W.nsIn K mainGlobals "range" = some none) (z_min : PySem.W.nsIn K mainGlobals "min" = some none) (z_max : PySem.W.nsIn K mainGlobals "max" = some none) (z_tuple : PySem.W.nsIn K mainGlobals "tuple" = some none) (z_isinstance : PySem.W.nsIn K mainGlobals "isinstance" = some none) (z_bool : PySem.W.nsIn K mainGlobals "bool" = some none)  :
    ∃ fd : FuncData, (∀ (s : Shared) (v : Value), BindsTo s fd ⟨[v], []⟩ [("_law_script", v)]) ∧ ∀ base : Heap, K.In base → base.Ns mainGlobals mg → FnOk l.prog w K mg base CX0 6 fa fd ["_law_script"] (liftG K spTrue) := by
  have e := hfa.symm.trans (PySem.W.mg_of X G a19)
  cases e
  have m_len := PySem.W.mg_none_of X G z_len
  have m_range := PySem.W.mg_none_of X G z_range
  have m_min := PySem.W.mg_none_of X G z_min
  have m_max := PySem.W.mg_none_of X G z_max
  have m_tuple := PySem.W.mg_none_of X G z_tuple
  have m_isinstance := PySem.W.mg_none_of X G z_isinstance
  have m_bool := PySem.W.mg_none_of X G z_bool
  have F0 := fun_mk (st := s_neighbours) l0 c0 k0
  have b0 := F0.binds (ps := P_neighbours) fun _ _ _ _ _ _ us hl => match us, hl with | [_], _ => rfl
  have g0 := PySem.W.mg_of X G a0
  have F1 := fun_mk (st := s_corner_neighbours) l1 c1 k1
  have b1 := F1.binds (ps := P_corner_neighbours) fun _ _ _ _ _ _ us hl => match us, hl with | [_], _ => rfl
  have g1 := PySem.W.mg_of X G a1
  have F2 := fun_mk (st := s_all_around) l2 c2 k2
  have b2 := F2.binds (ps := P_all_around) fun _ _ _ _ _ _ us hl => match us, hl with | [_], _ => rfl
  have g2 := PySem.W.mg_of X G a2
  have F3 := fun_mk (st := s_reached) l3 c3 k3
  have b3 := F3.binds (ps := P_reached) fun _ _ _ _ _ _ us hl => match us, hl with | [_, _, _], _ => rfl
  have g3 := PySem.W.mg_of X G a3
  have F4 := fun_mk (st := s_hangs_together) l4 c4 k4
  have b4 := F4.binds (ps := P_hangs_together) fun _ _ _ _ _ _ us hl => match us, hl with | [_], _ => rfl
  have g4 := PySem.W.mg_of X G a4
  have F5 := fun_mk (st := s_bare_squares) l5 c5 k5
  have b5 := F5.binds (ps := P_bare_squares) fun _ _ _ _ _ _ us hl => match us, hl with | [_], _ => rfl
  have g5 := PySem.W.mg_of X G a5
  have F6 := fun_mk (st := s_has_hole) l6 c6 k6
  have b6 := F6.binds (ps := P_has_hole) fun _ _ _ _ _ _ us hl => match us, hl with | [_], _ => rfl
  have g6 := PySem.W.mg_of X G a6
  have F7 := fun_mk (st := s_meet_by_corner_alone) l7 c7 k7
  have b7 := F7.binds (ps := P_meet_by_corner_alone) fun _ _ _ _ _ _ us hl => match us, hl with | [_, _, _], _ => rfl
  have g7 := PySem.W.mg_of X G a7
  have F8 := fun_mk (st := s_has_bare_corner) l8 c8 k8
  have b8 := F8.binds (ps := P_has_bare_corner) fun _ _ _ _ _ _ us hl => match us, hl with | [_], _ => rfl
  have g8 := PySem.W.mg_of X G a8
  have F9 := fun_mk (st := s_is_plain) l9 c9 k9
  have b9 := F9.binds (ps := P_is_plain) fun _ _ _ _ _ _ us hl => match us, hl with | [_], _ => rfl
  have g9 := PySem.W.mg_of X G a9
  have F10 := fun_mk (st := s_law_cell) l10 c10 k10
  have b10 := F10.binds (ps := P_law_cell) fun _ _ _ _ _ _ us hl => match us, hl with | [_, _], _ => rfl
  have g10 := PySem.W.mg_of X G a10
  have F11 := fun_mk (st := s_law_mix) l11 c11 k11
  have b11 := F11.binds (ps := P_law_mix) fun _ _ _ _ _ _ us hl => match us, hl with | [_, _, _], _ => rfl
  have g11 := PySem.W.mg_of X G a11
  have F12 := fun_mk (st := s_law_floor) l12 c12 k12
  have b12 := F12.binds (ps := P_law_floor) fun _ _ _ _ _ _ us hl => match us, hl with | [_, _], _ => rfl
  have g12 := PySem.W.mg_of X G a12
  have F13 := fun_mk (st := s_law_near) l13 c13 k13
  have b13 := F13.binds (ps := P_law_near) fun _ _ _ _ _ _ us hl => match us, hl with | [_, _], _ => rfl
  have g13 := PySem.W.mg_of X G a13
  have F14 := fun_mk (st := s_law_hangs) l14 c14 k14
  have b14 := F14.binds (ps := P_law_hangs) fun _ _ _ _ _ _ us hl => match us, hl with | [_], _ => rfl
  have g14 := PySem.W.mg_of X G a14
  have F15 := fun_mk (st := s_law_no_hole) l15 c15 k15
  have b15 := F15.binds (ps := P_law_no_hole) fun _ _ _ _ _ _ us hl => match us, hl with | [_], _ => rfl
  have g15 := PySem.W.mg_of X G a15
  have F16 := fun_mk (st := s_law_no_pinch) l16 c16 k16
  have b16 := F16.binds (ps := P_law_no_pinch) fun _ _ _ _ _ _ us hl => match us, hl with | [_], _ => rfl
  have g16 := PySem.W.mg_of X G a16
  have F17 := fun_mk (st := s_law_plain) l17 c17 k17
  have b17 := F17.binds (ps := P_law_plain) fun _ _ _ _ _ _ us hl => match us, hl with | [_], _ => rfl
  have g17 := PySem.W.mg_of X G a17
  have F18 := fun_mk (st := s_law_ring) l18 c18 k18
  have b18 := F18.binds (ps := P_law_ring) fun _ _ _ _ _ _ us hl => match us, hl with | [_], _ => rfl
  have g18 := PySem.W.mg_of X G a18
  have F19 := fun_mk (st := s_law) l19 c19 k19
  have g19 := PySem.W.mg_of X G a19
  refine ⟨PySem.W.fnOf "law" "law" (defArgs s_law) (defBody s_law) (defScope s_law) .none kV19 dc19 pm19 an19 cd19 ct19, fun s v => .of_eq rfl, fun base _ _ => ?_⟩
  have D_neighbours : Df l.prog w K mg base "neighbours" P_neighbours 1 (spNb nbM) := ⟨f0, _, ok_neighbours F0, g0, k0, b0⟩
  have A_neighbours : ∃ f', mg "neighbours" = some (.ref f') ∧ DfA l.prog w K mg base f' P_neighbours 1 (spNb nbM) := ⟨f0, g0, _, ok_neighbours F0, k0, b0⟩
  have D_corner_neighbours : Df l.prog w K mg base "corner_neighbours" P_corner_neighbours 1 (spNb cnM) := ⟨f1, _, ok_corner_neighbours F1, g1, k1, b1⟩
  have A_corner_neighbours : ∃ f', mg "corner_neighbours" = some (.ref f') ∧ DfA l.prog w K mg base f' P_corner_neighbours 1 (spNb cnM) := ⟨f1, g1, _, ok_corner_neighbours F1, k1, b1⟩
  have D_all_around : Df l.prog w K mg base "all_around" P_all_around 2 (spNb aaM) := ⟨f2, _, ok_all_around F2 D_neighbours D_corner_neighbours, g2, k2, b2⟩
  have A_all_around : ∃ f', mg "all_around" = some (.ref f') ∧ DfA l.prog w K mg base f' P_all_around 2 (spNb aaM) := ⟨f2, g2, _, ok_all_around F2 D_neighbours D_corner_neighbours, k2, b2⟩
  have D_reached1 : Df l.prog w K mg base "reached" P_reached 2 (spReached l.prog w K mg base 1) := ⟨f3, _, ok_reached 1 F3 m_len, g3, k3, b3⟩
  have A_reached1 : ∃ f', mg "reached" = some (.ref f') ∧ DfA l.prog w K mg base f' P_reached 2 (spReached l.prog w K mg base 1) := ⟨f3, g3, _, ok_reached 1 F3 m_len, k3, b3⟩
  have D_reached2 : Df l.prog w K mg base "reached" P_reached 3 (spReached l.prog w K mg base 2) := ⟨f3, _, ok_reached 2 F3 m_len, g3, k3, b3⟩
  have A_reached2 : ∃ f', mg "reached" = some (.ref f') ∧ DfA l.prog w K mg base f' P_reached 3 (spReached l.prog w K mg base 2) := ⟨f3, g3, _, ok_reached 2 F3 m_len, k3, b3⟩
  have D_hangs_together : Df l.prog w K mg base "hangs_together" P_hangs_together 3 (spF fun F => .bl (hangB F)) := ⟨f4, _, ok_hangs_together F4 m_len D_reached1 A_neighbours, g4, k4, b4⟩
  have A_hangs_together : ∃ f', mg "hangs_together" = some (.ref f') ∧ DfA l.prog w K mg base f' P_hangs_together 3 (spF fun F => .bl (hangB F)) := ⟨f4, g4, _, ok_hangs_together F4 m_len D_reached1 A_neighbours, k4, b4⟩
  have D_bare_squares : Df l.prog w K mg base "bare_squares" P_bare_squares 1 (spBare) := ⟨f5, _, ok_bare_squares F5 m_range m_min m_max, g5, k5, b5⟩
  have A_bare_squares : ∃ f', mg "bare_squares" = some (.ref f') ∧ DfA l.prog w K mg base f' P_bare_squares 1 (spBare) := ⟨f5, g5, _, ok_bare_squares F5 m_range m_min m_max, k5, b5⟩
  have D_has_hole : Df l.prog w K mg base "has_hole" P_has_hole 4 (spHole) := ⟨f6, _, ok_has_hole F6 m_len D_bare_squares D_reached2 A_all_around, g6, k6, b6⟩
  have A_has_hole : ∃ f', mg "has_hole" = some (.ref f') ∧ DfA l.prog w K mg base f' P_has_hole 4 (spHole) := ⟨f6, g6, _, ok_has_hole F6 m_len D_bare_squares D_reached2 A_all_around, k6, b6⟩
  have D_meet : Df l.prog w K mg base "meet_by_corner_alone" P_meet_by_corner_alone 1 (spMeet) := ⟨f7, _, ok_meet_by_corner_alone F7, g7, k7, b7⟩
  have A_meet : ∃ f', mg "meet_by_corner_alone" = some (.ref f') ∧ DfA l.prog w K mg base f' P_meet_by_corner_alone 1 (spMeet) := ⟨f7, g7, _, ok_meet_by_corner_alone F7, k7, b7⟩
  have D_has_bare_corner : Df l.prog w K mg base "has_bare_corner" P_has_bare_corner 2 (spF fun F => .bl (cornB F)) := ⟨f8, _, ok_has_bare_corner F8 D_meet D_corner_neighbours, g8, k8, b8⟩
  have A_has_bare_corner : ∃ f', mg "has_bare_corner" = some (.ref f') ∧ DfA l.prog w K mg base f' P_has_bare_corner 2 (spF fun F => .bl (cornB F)) := ⟨f8, g8, _, ok_has_bare_corner F8 D_meet D_corner_neighbours, k8, b8⟩
  have D_is_plain : Df l.prog w K mg base "is_plain" P_is_plain 5 (spF fun F => .bl (plainP F)) := ⟨f9, _, ok_is_plain F9 m_len D_hangs_together D_has_hole D_has_bare_corner, g9, k9, b9⟩
  have A_is_plain : ∃ f', mg "is_plain" = some (.ref f') ∧ DfA l.prog w K mg base f' P_is_plain 5 (spF fun F => .bl (plainP F)) := ⟨f9, g9, _, ok_is_plain F9 m_len D_hangs_together D_has_hole D_has_bare_corner, k9, b9⟩
  have D_law_cell : Df l.prog w K mg base "_law_cell" P_law_cell 1 (spCell) := ⟨f10, _, ok_law_cell F10 m_len, g10, k10, b10⟩
  have A_law_cell : ∃ f', mg "_law_cell" = some (.ref f') ∧ DfA l.prog w K mg base f' P_law_cell 1 (spCell) := ⟨f10, g10, _, ok_law_cell F10 m_len, k10, b10⟩
  have D_law_mix : Df l.prog w K mg base "_law_mix" P_law_mix 1 (spMix) := ⟨f11, _, ok_law_mix F11, g11, k11, b11⟩
  have A_law_mix : ∃ f', mg "_law_mix" = some (.ref f') ∧ DfA l.prog w K mg base f' P_law_mix 1 (spMix) := ⟨f11, g11, _, ok_law_mix F11, k11, b11⟩
  have D_law_floor : Df l.prog w K mg base "_law_floor" P_law_floor 2 (spFloor) := ⟨f12, _, ok_law_floor F12 m_len m_range m_tuple m_max m_min D_law_cell D_law_mix, g12, k12, b12⟩
  have A_law_floor : ∃ f', mg "_law_floor" = some (.ref f') ∧ DfA l.prog w K mg base f' P_law_floor 2 (spFloor) := ⟨f12, g12, _, ok_law_floor F12 m_len m_range m_tuple m_max m_min D_law_cell D_law_mix, k12, b12⟩
  have D_law_near : Df l.prog w K mg base "_law_near" P_law_near 1 (spNear) := ⟨f13, _, ok_law_near F13, g13, k13, b13⟩
  have A_law_near : ∃ f', mg "_law_near" = some (.ref f') ∧ DfA l.prog w K mg base f' P_law_near 1 (spNear) := ⟨f13, g13, _, ok_law_near F13, k13, b13⟩
  have D_law_hangs : Df l.prog w K mg base "_law_hangs" P_law_hangs 2 (spF fun F => .bl (hangB F)) := ⟨f14, _, ok_law_hangs F14 m_len D_law_near, g14, k14, b14⟩
  have A_law_hangs : ∃ f', mg "_law_hangs" = some (.ref f') ∧ DfA l.prog w K mg base f' P_law_hangs 2 (spF fun F => .bl (hangB F)) := ⟨f14, g14, _, ok_law_hangs F14 m_len D_law_near, k14, b14⟩
  have D_law_no_hole : Df l.prog w K mg base "_law_no_hole" P_law_no_hole 1 (spF fun F => .bl (noHoleB F)) := ⟨f15, _, ok_law_no_hole F15 m_len m_range, g15, k15, b15⟩
  have A_law_no_hole : ∃ f', mg "_law_no_hole" = some (.ref f') ∧ DfA l.prog w K mg base f' P_law_no_hole 1 (spF fun F => .bl (noHoleB F)) := ⟨f15, g15, _, ok_law_no_hole F15 m_len m_range, k15, b15⟩
  have D_law_no_pinch : Df l.prog w K mg base "_law_no_pinch" P_law_no_pinch 1 (spF fun F => .bl (!pinchB F)) := ⟨f16, _, ok_law_no_pinch F16, g16, k16, b16⟩
  have A_law_no_pinch : ∃ f', mg "_law_no_pinch" = some (.ref f') ∧ DfA l.prog w K mg base f' P_law_no_pinch 1 (spF fun F => .bl (!pinchB F)) := ⟨f16, g16, _, ok_law_no_pinch F16, k16, b16⟩
  have D_law_plain : Df l.prog w K mg base "_law_plain" P_law_plain 3 (spF fun F => .bl (plainP F)) := ⟨f17, _, ok_law_plain F17 D_law_hangs D_law_no_hole D_law_no_pinch, g17, k17, b17⟩
  have A_law_plain : ∃ f', mg "_law_plain" = some (.ref f') ∧ DfA l.prog w K mg base f' P_law_plain 3 (spF fun F => .bl (plainP F)) := ⟨f17, g17, _, ok_law_plain F17 D_law_hangs D_law_no_hole D_law_no_pinch, k17, b17⟩
  have D_law_ring : Df l.prog w K mg base "_law_ring" P_law_ring 2 (spRing) := ⟨f18, _, ok_law_ring F18 m_len m_range m_tuple D_law_cell, g18, k18, b18⟩
  have A_law_ring : ∃ f', mg "_law_ring" = some (.ref f') ∧ DfA l.prog w K mg base f' P_law_ring 2 (spRing) := ⟨f18, g18, _, ok_law_ring F18 m_len m_range m_tuple D_law_cell, k18, b18⟩
  exact ok_law F19 m_isinstance m_bool D_law_cell D_law_floor D_law_ring D_is_plain D_law_plain
theorem walk {l : PySem.W.OpenLaw} {q : Program} {loose : List Str} {XP : (Str → Option Value) → Heap → Prop} {YP : World → Heap → Prop} {d : DefRec} {K : Params → PySem.W.Frag} (hn : l.most = some 63) (hdf : d.params.defaults = [])
    (hY : ∀ (w : World) (h : Heap), YP w h → (K w.params).In h)
    (F : ∀ (w : World) (mg : Str → Option Value) (fa : Addr) (h : Heap), (K w.params).In h → h.Ns mainGlobals mg → mg d.name = some (.ref fa) →
      ∃ fd : FuncData, (∀ (s : Shared) (u : Value), BindsTo s fd ⟨[u], []⟩ [("_law_script", u)]) ∧ ∀ base : Heap, (K w.params).In base → base.Ns mainGlobals mg → FnOk l.prog w (K w.params) mg base CX0 6 fa fd ["_law_script"] (liftG (K w.params) spTrue)) :
    PySem.W.WalkO q loose XP YP l.row.toRowW d [] (fun f vs => PySem.call f vs) :=
  L2.walk_of (n := 63) (k := 6) (x := "_law_script") (CX := fun _ => CX0) (sp := fun w => liftG (K w.params) spTrue) hn (by decide) hdf ⟨rfl, by decide, by decide⟩ hY F
    (fun w H a ns hl _ hS => ⟨[.scr ns], g0, fun d _ => d = .bl true, g0_ok, RepL.cons (by rw [hid_g0, Rep]; exact ⟨a, rfl, hS⟩) RepL.nil, ⟨ns, rfl, rfl⟩, fun v H' d G' _ _ r q => by
      subst q
      rw [Rep] at r
      exact r⟩) fun _ _ _ _ _ z => z
end TF
open PySem PySem.W PyProof.Rows
set_option maxRecDepth 100000 in
set_option maxHeartbeats 0 in
theorem PySem.Challenge.cw_tilefloor_k09_plain_floors_holds : PySem.Challenge.rw_tilefloor_k09_plain_floors.Holds := by
  w_on; o_law; k_head; (case hw => w_witness2)
  k_fill
  refine TF.walk (l := PySem.Challenge.rw_tilefloor_k09_plain_floors) rfl rfl (fun w h Y => PySem.W.kIn_of Y) ?F
  case F =>
    intro w mg fa h KX G hmg
    refine' TF.all_mk KX G hmg ?a0 ?l0 ?c0 ?k0 ?a1 ?l1 ?c1 ?k1 ?a2 ?l2 ?c2 ?k2 ?a3 ?l3 ?c3 ?k3 ?a4 ?l4 ?c4 ?k4 ?a5 ?l5 ?c5 ?k5 ?a6 ?l6 ?c6 ?k6 ?a7 ?l7 ?c7 ?k7 ?a8 ?l8 ?c8 ?k8 ?a9 ?l9 ?c9 ?k9 ?a10 ?l10 ?c10 ?k10 ?a11 ?l11 ?c11 ?k11 ?a12 ?l12 ?c12 ?k12 ?a13 ?l13 ?c13 ?k13 ?a14 ?l14 ?c14 ?k14 ?a15 ?l15 ?c15 ?k15 ?a16 ?l16 ?c16 ?k16 ?a17 ?l17 ?c17 ?k17 ?a18 ?l18 ?c18 ?k18 ?a19 ?l19 ?c19 ?k19 ?z_len ?z_range ?z_min ?z_max ?z_tuple ?z_isinstance ?z_bool 
    (case a0 => k_is); (case l0 => k_is); (case c0 => k_is); (case k0 => k_is)
    (case a1 => k_is); (case l1 => k_is); (case c1 => k_is); (case k1 => k_is)
    (case a2 => k_is); (case l2 => k_is); (case c2 => k_is); (case k2 => k_is)
    (case a3 => k_is); (case l3 => k_is); (case c3 => k_is); (case k3 => k_is)
    (case a4 => k_is); (case l4 => k_is); (case c4 => k_is); (case k4 => k_is)
    (case a5 => k_is); (case l5 => k_is); (case c5 => k_is); (case k5 => k_is)
    (case a6 => k_is); (case l6 => k_is); (case c6 => k_is); (case k6 => k_is)
    (case a7 => k_is); (case l7 => k_is); (case c7 => k_is); (case k7 => k_is)
    (case a8 => k_is); (case l8 => k_is); (case c8 => k_is); (case k8 => k_is)
    (case a9 => k_is); (case l9 => k_is); (case c9 => k_is); (case k9 => k_is)
    (case a10 => k_is); (case l10 => k_is); (case c10 => k_is); (case k10 => k_is)
    (case a11 => k_is); (case l11 => k_is); (case c11 => k_is); (case k11 => k_is)
    (case a12 => k_is); (case l12 => k_is); (case c12 => k_is); (case k12 => k_is)
    (case a13 => k_is); (case l13 => k_is); (case c13 => k_is); (case k13 => k_is)
    (case a14 => k_is); (case l14 => k_is); (case c14 => k_is); (case k14 => k_is)
    (case a15 => k_is); (case l15 => k_is); (case c15 => k_is); (case k15 => k_is)
    (case a16 => k_is); (case l16 => k_is); (case c16 => k_is); (case k16 => k_is)
    (case a17 => k_is); (case l17 => k_is); (case c17 => k_is); (case k17 => k_is)
    (case a18 => k_is); (case l18 => k_is); (case c18 => k_is); (case k18 => k_is)
    (case a19 => k_is); (case l19 => k_is); (case c19 => k_is); (case k19 => k_is)
    (case z_len => k_is)
    (case z_range => k_is)
    (case z_min => k_is)
    (case z_max => k_is)
    (case z_tuple => k_is)
    (case z_isinstance => k_is)
    (case z_bool => k_is)
