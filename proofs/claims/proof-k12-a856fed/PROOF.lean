import PyProof.Rows.All
import Wide.All
import OpenK.AllK
import Wide.FinOn
import Lean
import PyProof.EqAt
import PyProof.EqKinds
import PyProof.TupleCall
import PyProof.NeKinds
import PyProof.Rows.SortRuns
import KE.KSortTup
import PySem.SetOps
import PyProof.SetScanFacts
import PyProof.SetKind
import PyProof.TupleKey
import PyProof.Rows.SetFrom
import PyProof.DictIter
import PyProof.FactsAll.set
import PyProof.CollectWalk
import PyProof.SetRoads
import PyProof.Draws
import PyProof.EnumMake
import PyProof.EnumFor
import PyProof.SumWalkG
import PyProof.WalksMore
import PyProof.RulesTry
import PyProof.RulesAs
import PyProof.Rows.Catch
import PyProof.IsInstance
import PyProof.FString
import PyProof.ExcBaseAll.ValueError
import PyProof.MinMaxWalk
import PyProof.Rows.Range3
import PyProof.ConsumeWalk
import PyProof.ZipIter
import PyProof.Rows.ZipGen
import PyProof.ListMulRoad
import PySem.Challenge.RW_tilefloor_k12_whole_rings
set_option Elab.async false
set_option linter.all false
set_option maxRecDepth 100000
namespace L2
open PySem PySem.Spec PyProof.Rows
abbrev Key := Sum Int Str
def keyIs : Key → Value → Bool
  | .inl k, v => Value.isInt k v
  | .inr x, v => Value.isStrOf x v
def keyH (w : World) : Key → Int
  | .inl k => hashInt k
  | .inr x => hashStr w x
theorem keyIs_shape : ∀ {k : Key} {v : Value}, keyIs k v = true → (∃ i t, k = Sum.inl i ∧ v = Value.int i t) ∨ (∃ x t, k = Sum.inr x ∧ v = Value.str x t)
  | .inl i, v, h => by
    obtain ⟨t, e⟩ := Value.isInt_shape (k := i) (v := v) h
    exact .inl ⟨i, t, rfl, e⟩
  | .inr x, v, h => by
    obtain ⟨t, e⟩ := Value.isStrOf_shape (x := x) (v := v) h
    exact .inr ⟨x, t, rfl, e⟩
theorem key_ll (a b : Int) : decide ((Sum.inl a : Key) = Sum.inl b) = (a == b) := by
  by_cases e : a = b
  · subst e; simp
  · have h : ¬ (Sum.inl a : Key) = Sum.inl b := fun q => e (Sum.inl.inj q)
    rw [decide_eq_false h]
    exact (beq_eq_false_iff_ne.mpr e).symm
theorem key_rr (a b : Str) : decide ((Sum.inr a : Key) = Sum.inr b) = decide (a = b) := by
  by_cases e : a = b
  · subst e; simp
  · have h : ¬ (Sum.inr a : Key) = Sum.inr b := fun q => e (Sum.inr.inj q)
    rw [decide_eq_false h, decide_eq_false e]
theorem key_lr (a : Int) (b : Str) : decide ((Sum.inl a : Key) = Sum.inr b) = false := decide_eq_false (fun q => nomatch q)
theorem key_rl (a : Str) (b : Int) : decide ((Sum.inr a : Key) = Sum.inl b) = false := decide_eq_false (fun q => nomatch q)
def mixKind (prog : Program) (w : World) : PySem.KeyKind prog w Key where
  is := keyIs
  hash := keyH w
  inj := fun v a b ha hb => by
    rcases keyIs_shape ha with ⟨i, t, rfl, rfl⟩ | ⟨x, t, rfl, rfl⟩
    · rcases keyIs_shape hb with ⟨j, u, rfl, e⟩ | ⟨y, u, rfl, e⟩
      · injection e with e1 _; rw [e1]
      · exact nomatch e
    · rcases keyIs_shape hb with ⟨j, u, rfl, e⟩ | ⟨y, u, rfl, e⟩
      · exact nomatch e
      · injection e with e1 _; rw [e1]
  byValue := fun k v h => by
    rcases keyIs_shape h with ⟨i, t, rfl, rfl⟩ | ⟨x, t, rfl, rfl⟩ <;> rfl
  pyHash := fun hv h => by
    rcases keyIs_shape hv with ⟨i, t, rfl, rfl⟩ | ⟨x, t, rfl, rfl⟩
    · exact wpAny_pyHash_int h
    · exact wpAny_pyHash_str h
  eqBool := fun hu hv h => by
    rcases keyIs_shape hu with ⟨i, t, rfl, rfl⟩ | ⟨x, t, rfl, rfl⟩
    · rcases keyIs_shape hv with ⟨j, u, rfl, rfl⟩ | ⟨y, u, rfl, rfl⟩
      · rw [key_ll] at h; exact wpAny_eqBool_int h
      · rw [key_lr] at h; exact SeqAt.EqAt.int_str i t y u _ _ _ _ h
    · rcases keyIs_shape hv with ⟨j, u, rfl, rfl⟩ | ⟨y, u, rfl, rfl⟩
      · rw [key_rl] at h; exact SeqAt.EqAt.str_int x t j u _ _ _ _ h
      · rw [key_rr] at h; exact wpAny_eqBool_str h
  «strs» := fun k x t v h => by
    rcases keyIs_shape h with ⟨i, u, rfl, e⟩ | ⟨y, u, rfl, e⟩
    · exact nomatch e
    · injection e with e1 _
      subst e1
      cases v <;> rfl
end L2
namespace L2
open PySem PySem.Spec PyProof.Rows
inductive V where
  | non | bl (b : Bool) | int (i : Int) | str (x : Str) | byt (b : Array UInt8) | flt (b : UInt64) | ref (a : Addr) | ty (n : String)
  deriving DecidableEq
def RelV : V → Value → Prop
  | .non, u => u = Value.none
  | .bl b, u => u = Value.bool b
  | .int i, u => ∃ t, u = Value.int i t
  | .str x, u => ∃ t, u = Value.str x t
  | .byt b, u => ∃ t, u = Value.bytes b t
  | .flt b, u => ∃ t, u = Value.float b t
  | .ref a, u => u = Value.ref a
  | .ty n, u => u = Value.type n
abbrev Vals : List V → List Value → Prop := Paired RelV
theorem Vals.length {xs : List V} {us : List Value} (r : Vals xs us) : xs.length = us.length := Paired.length r
theorem Vals.get : ∀ {xs : List V} {us : List Value} {i : Nat} {x : V}, Vals xs us → xs[i]? = some x → ∃ u, us[i]? = some u ∧ RelV x u
  | _, _, _, _, .nil, e => by simp at e
  | _, _, 0, _, .cons r _, e => by simp at e; subst e; exact ⟨_, rfl, r⟩
  | _, _, i + 1, x, .cons _ t, e => by
    obtain ⟨u, h1, h2⟩ := Vals.get (i := i) (x := x) t (by simpa using e)
    exact ⟨u, by simpa using h1, h2⟩
theorem Vals.set {x : V} {u : Value} (r : RelV x u) : ∀ {xs : List V} {us : List Value} (i : Nat), Vals xs us → Vals (xs.set i x) (us.set i u)
  | _, _, _, .nil => .nil
  | _, _, 0, .cons _ t => .cons r t
  | _, _, i + 1, .cons q t => .cons q (Vals.set r i t)
theorem Vals.append : ∀ {xs ys : List V} {us ws : List Value}, Vals xs us → Vals ys ws → Vals (xs ++ ys) (us ++ ws)
  | _, _, _, _, .nil, s => s
  | _, _, _, _, .cons r t, s => .cons r (Vals.append t s)
theorem Vals.drop : ∀ {xs : List V} {us : List Value} (n : Nat), Vals xs us → Vals (xs.drop n) (us.drop n)
  | _, _, 0, r => r
  | _, _, _ + 1, .nil => .nil
  | _, _, n + 1, .cons _ t => Vals.drop n t
def RelO : Option V → Option Value → Prop
  | some v, some u => RelV v u
  | none, none => True
  | _, _ => False
def KV {κ : Type} : List (κ × V) → List (κ × Value) → Prop := Paired fun (p : κ × V) (q : κ × Value) => p.1 = q.1 ∧ RelV p.2 q.2
def kV : Key → V
  | .inl i => .int i
  | .inr x => .str x
inductive HO where
  /-- a list -/
  | lst (xs : List V)
  /-- a tuple (never changes) -/
  | tup (xs : List V)
  /-- a dict whose keys are ints and texts; one whose keys are tuples of ints and texts (the empty one is both) -/
  | dK (kvs : List (Key × V)) | dT (kvs : List (List Key × V))
  /-- a set of ints: its members, its size -/
  | set (S : Int → Bool) (n : Nat)
  /-- an instance of the class at C, its dict at dx, its attributes -/
  | ins (C dx : Addr) (fs : List (Str × V))
  /-- the dict of the instance at x -/
  | own (x : Addr)
  /-- the dict of an exception -/
  | xd (fs : List (Str × V))
  /-- a bound method, f of x -/
  | met (f x : Addr)
  /-- a range object lo, lo + 1, .. below hi -/
  | rng (lo hi : Int)
  /-- a thing that is known to the object (the script; a dict while a loop walks it): read, never written while it is so -/
  | frz (o : Obj) (u : HO)
  /-- a code object's table -/
  | tbl (ps : Array Value)
  /-- any other thing, by what is true of its one object (a def of one's own: SetO a S n := HO.ext fun h => ..) -/
  | ext (φ : Heap → Prop)
abbrev Hp := Addr → Option HO
def upd (H : Hp) (a : Addr) (o : HO) : Hp := fun b => if b = a then some o else H b
theorem upd_same {H : Hp} {a : Addr} {o : HO} : upd H a o a = some o := by unfold upd; rw [if_pos rfl]
theorem upd_ne {H : Hp} {a b : Addr} {o : HO} (h : b ≠ a) : upd H a o b = H b := by unfold upd; rw [if_neg h]
theorem ne_of_none {H : Hp} {a b : Addr} {o : HO} (h : H a = some o) (h' : H b = none) : a ≠ b := by
  intro e; subst e; rw [h] at h'; cases h'
section
variable (P : Program) (w : World)
def ObjOk (H : Hp) (h : Heap) (a : Addr) : HO → Prop
  | .lst xs => xs.length ≤ sizeLine ∧ ∃ (its : List Value) (n : Nat), Vals xs its ∧ h.get? a = some { cls := .type "list", data := .seq its.toArray n }
  | .tup xs => xs.length ≤ sizeLine ∧ ∃ its : List Value, Vals xs its ∧ IsTup h a its.toArray
  | .dK kvs => kvs.length ≤ sizeLine ∧ (a == sysModules) = false ∧ ∃ vs, KV kvs vs ∧ h.DictOf (mixKind P w) a vs
  | .dT kvs => kvs.length ≤ sizeLine ∧ (a == sysModules) = false ∧ ∃ xs : List (List Key × Addr × Value),
      Paired (fun (p : List Key × V) (q : List Key × Addr × Value) => p.1 = q.1 ∧ H q.2.1 = some (.tup (p.1.map kV)) ∧ RelV p.2 q.2.2) kvs xs ∧
      ∃ o es ep, h.get? a = some o ∧ o.ExactDict ∧ o.data = .dict es ep ∧ es.toList = xs.map (entryOfKey (tupleKind (mixKind P w))) ∧ (xs.map (·.1)).Nodup
  | .set S n => h.SetOf (intKind P w) a S n
  | .ins C dx fs => H dx = some (.own a) ∧ fs.length ≤ 1000 ∧ dx ≠ a ∧ h.get? a = some (PySem.W.instObj C dx) ∧
      ∃ mA, h.Ns1 dx mA ∧ (∀ f, RelO (fs.lookup f) (mA f)) ∧ PySem.Within mA (fs.map (·.1))
  | .own _ => ∃ o, h.get? a = some o
  | .xd fs => ∃ mA, h.Ns1 a mA ∧ ∀ f, RelO (fs.lookup f) (mA f)
  | .rng lo hi => ∃ t u v, h.get? a = some { cls := .type "range", data := .fields #[.int lo t, .int hi u, .int 1 v] }
  | .frz o u => h.get? a = some o ∧ ObjOk H h a u
  | .tbl ps => h.get? a = some { cls := .none, data := .fields ps }
  | .met f x => h.get? a = some (PySem.W.methodObj (.ref f) (.ref x))
  | .ext φ => φ h ∧ (∃ o, h.get? a = some o) ∧ ∀ h1 h2 : Heap, φ h1 → (∀ o, h1.get? a = some o → h2.get? a = some o) → φ h2
def HOk (H : Hp) (h : Heap) : Prop := ∀ a o, H a = some o → ObjOk P w H h a o
end
section
variable {P : Program} {w : World} {H H' : Hp} {h h' : Heap} {a : Addr} {o : HO}
theorem ObjOk.lt (x : ObjOk P w H h a o) : a < h.objs.size := by
  cases o with
  | lst xs => obtain ⟨_, _, _, _, e⟩ := x; exact Heap.lt_size e
  | tup xs => obtain ⟨_, _, _, p⟩ := x; exact p.lt
  | dK kvs => obtain ⟨_, _, _, _, o, _, _, e, _⟩ := x; exact Heap.lt_size e
  | dT kvs => obtain ⟨_, _, _, _, o, _, _, e, _⟩ := x; exact Heap.lt_size e
  | set S n => obtain ⟨o, _, _, _, e, _⟩ := x; exact Heap.lt_size e
  | ins C dx fs => obtain ⟨_, _, _, e, _⟩ := x; exact Heap.lt_size e
  | own y => obtain ⟨_, e⟩ := x; exact Heap.lt_size e
  | xd fs => obtain ⟨_, ⟨_, _, _, e, _⟩, _⟩ := x; exact Heap.lt_size e
  | rng lo hi => obtain ⟨_, _, _, e⟩ := x; exact Heap.lt_size e
  | frz ob u => obtain ⟨e, _⟩ := x; exact Heap.lt_size e
  | tbl ps => exact Heap.lt_size (show h.get? a = some _ from x)
  | met f y => exact Heap.lt_size (show h.get? a = some _ from x)
  | ext φ => obtain ⟨_, ⟨_, e⟩, _⟩ := x; exact Heap.lt_size e
theorem Paired.mapP {α β : Type} {F G : α → β → Prop} : ∀ {l₁ : List α} {l₂ : List β}, Paired F l₁ l₂ → (∀ a b, F a b → G a b) → Paired G l₁ l₂
  | _, _, .nil, _ => .nil
  | _, _, .cons r t, f => .cons (f _ _ r) (Paired.mapP t f)
theorem ObjOk.stay (x : ObjOk P w H h a o) (k : ∀ b u, (b = a ∨ H b = some (.own a)) → h.get? b = some u → h'.get? b = some u)
    (ho : ∀ b, H b = some (.own a) → H' b = some (.own a)) (ht : ∀ b xs, H b = some (.tup xs) → H' b = some (.tup xs)) : ObjOk P w H' h' a o := by
  induction o with
  | lst xs => obtain ⟨z, its, n, r, e⟩ := x; exact ⟨z, its, n, r, k _ _ (.inl rfl) e⟩
  | tup xs => obtain ⟨z, its, r, ob, e, c⟩ := x; exact ⟨z, its, r, ob, k _ _ (.inl rfl) e, c⟩
  | dK kvs => obtain ⟨z, y, vs, r, ob, es, ep, e, c⟩ := x; exact ⟨z, y, vs, r, ob, es, ep, k _ _ (.inl rfl) e, c⟩
  | dT kvs =>
    obtain ⟨z, y, xs, r, ob, es, ep, e, c⟩ := x
    exact ⟨z, y, xs, Paired.mapP r fun p q z => ⟨z.1, ht _ _ z.2.1, z.2.2⟩, ob, es, ep, k _ _ (.inl rfl) e, c⟩
  | set S n => obtain ⟨ob, es, ep, t, e, c⟩ := x; exact ⟨ob, es, ep, t, k _ _ (.inl rfl) e, c⟩
  | ins C dx fs =>
    obtain ⟨d, z, ne, e, mA, ⟨od, es, ep, e2, c⟩, r⟩ := x
    exact ⟨ho _ d, z, ne, k _ _ (.inl rfl) e, mA, ⟨od, es, ep, k _ _ (.inr d) e2, c⟩, r⟩
  | own y => obtain ⟨ob, e⟩ := x; exact ⟨ob, k _ _ (.inl rfl) e⟩
  | xd fs => obtain ⟨mA, ⟨od, es, ep, e, c⟩, r⟩ := x; exact ⟨mA, ⟨od, es, ep, k _ _ (.inl rfl) e, c⟩, r⟩
  | rng lo hi => obtain ⟨t, u, v, e⟩ := x; exact ⟨t, u, v, k _ _ (.inl rfl) e⟩
  | frz ob u ih => obtain ⟨e, q⟩ := x; exact ⟨k _ _ (.inl rfl) e, ih q⟩
  | tbl ps =>
    have e : h.get? a = some { cls := .none, data := .fields ps } := x
    show h'.get? a = some { cls := .none, data := .fields ps }
    exact k a _ (.inl rfl) e
  | met f y =>
    have e : h.get? a = some (PySem.W.methodObj (.ref f) (.ref y)) := x
    show h'.get? a = some (PySem.W.methodObj (.ref f) (.ref y))
    exact k a _ (.inl rfl) e
  | ext φ => obtain ⟨p, ⟨o, e⟩, st⟩ := x; exact ⟨st _ _ p fun o q => k _ _ (.inl rfl) q, ⟨o, k _ _ (.inl rfl) e⟩, st⟩
theorem HOk.lt (x : HOk P w H h) (e : H a = some o) : a < h.objs.size := (x a o e).lt
theorem HOk.fresh (x : HOk P w H h) (e : h.objs.size ≤ a) : H a = none := by
  cases q : H a with
  | none => rfl
  | some u => exact absurd (Nat.lt_of_lt_of_le (x.lt q) e) (Nat.lt_irrefl _)
theorem HOk.kept (x : HOk P w H h) (k : ∀ b u, h.get? b = some u → h'.get? b = some u) : HOk P w H h' := fun a o e =>
  (x a o e).stay (fun b u _ q => k b u q) (fun _ q => q) fun _ _ q => q
theorem HOk.laid (x : HOk P w H h) (k : ∀ b u, h.get? b = some u → h'.get? b = some u) (hp : h.objs.size ≤ a) (new : ObjOk P w (upd H a o) h' a o) : HOk P w (upd H a o) h' := fun b u e => by
  have hn := x.fresh hp
  by_cases hb : b = a
  · subst hb; rw [upd_same] at e; cases e; exact new
  · rw [upd_ne hb] at e
    exact (x b u e).stay (fun c v _ q => k c v q) (fun c q => by rw [upd_ne (ne_of_none q hn)]; exact q) fun c xs q => by rw [upd_ne (ne_of_none q hn)]; exact q
end
def Rd (H : Hp) (a : Addr) (u : HO) : Prop := H a = some u ∨ ∃ o, H a = some (.frz o u)
theorem Rd.of {H : Hp} {a : Addr} {u : HO} (h : H a = some u) : Rd H a u := .inl h
theorem Rd.ok {P : Program} {w : World} {H : Hp} {h : Heap} {a : Addr} {u : HO} (r : Rd H a u) (x : HOk P w H h) : ObjOk P w H h a u := by
  rcases r with r | ⟨o, r⟩
  · exact x a u r
  · obtain ⟨_, q⟩ := x a _ r
    exact q
def Mut : Option HO → Prop
  | some (.lst _) => True
  | some (.dK _) => True
  | some (.dT _) => True
  | some (.set _ _) => True
  | some (.ins _ _ _) => True
  | some (.ext _) => True
  | _ => False
section
variable {P : Program} {w : World} {H : Hp} {h h' : Heap} {x e : Addr} {o' : HO}
theorem HOk.write (ok : HOk P w H h) (mu : Mut (H x)) (he : e = x ∨ H e = some (.own x)) (k : ∀ b u, b ≠ e → h.get? b = some u → h'.get? b = some u) (heo : ∃ u, h'.get? e = some u)
    (new : ObjOk P w (upd H x o') h' x o') : HOk P w (upd H x o') h' := fun b u q => by
  have nown : ∀ c y, H c = some (.own y) → c ≠ x := fun c y r z => by subst z; rw [r] at mu; exact mu
  have ntup : ∀ c xs, H c = some (.tup xs) → c ≠ x := fun c xs r z => by subst z; rw [r] at mu; exact mu
  by_cases hb : b = x
  · subst hb; rw [upd_same] at q; cases q; exact new
  · rw [upd_ne hb] at q
    by_cases hbe : b = e
    · have q' : H b = some (.own x) := by
        rcases he with z | z
        · exact absurd (hbe.trans z) hb
        · rw [hbe]; exact z
      rw [q] at q'; cases q'
      obtain ⟨v, hv⟩ := heo
      exact ⟨v, by rw [hbe]; exact hv⟩
    · refine (ok b u q).stay (fun c v hc r => k c v ?_ r) (fun c r => by rw [upd_ne (nown c b r)]; exact r) fun c xs r => by rw [upd_ne (ntup c xs r)]; exact r
      rcases hc with rfl | hc
      · exact hbe
      · rintro rfl
        rcases he with z | z
        · exact nown c b hc z
        · rw [hc] at z; cases z; exact hb rfl
end
structure Un (fs ex : List Addr) (H H' : Hp) (h h' : Heap) : Prop where
  keep : ∀ b o, h.get? b = some o → H b = none → b ∉ fs → b ∉ ex → h'.get? b = some o
  slot : ∀ b o, h.get? b = some o → H b = none → b ∈ fs → b ∉ ex → ∃ sl, h'.get? b = some { o with slots := sl }
  free : ∀ b o, h.get? b = some o → H b = none → b ∉ ex → H' b = none
  there : ∀ b o, h.get? b = some o → b ∉ ex → ∃ o', h'.get? b = some o'
  tups : ∀ b xs, H b = some (.tup xs) → H' b = some (.tup xs)
  frzs : ∀ b o u, H b = some (.frz o u) → H' b = some (.frz o u)
  tbls : ∀ b ps, H b = some (.tbl ps) → ∃ more, H' b = some (.tbl (ps ++ more))
section
variable {fs fs' ex ex' : List Addr} {H H1 H2 : Hp} {h h1 h2 h' : Heap} {a x e : Addr} {o : HO}
theorem Un.any (u : Un fs ex H H1 h h1) {b : Addr} {ob : Obj} (q : h.get? b = some ob) (n : H b = none) (hx : b ∉ ex) : ∃ sl, h1.get? b = some { ob with slots := sl } := by
  by_cases hb : b ∈ fs
  · exact u.slot b ob q n hb hx
  · exact ⟨ob.slots, u.keep b ob q n hb hx⟩
theorem Un.kept (k : ∀ b u, h.get? b = some u → h'.get? b = some u) : Un fs ex H H h h' :=
  ⟨fun b ob q _ _ _ => k b ob q, fun b ob q _ _ _ => ⟨ob.slots, k b ob q⟩, fun _ _ _ n _ => n, fun b ob q _ => ⟨ob, k b ob q⟩, fun _ _ q => q, fun _ _ _ q => q, fun _ ps q => ⟨#[], by rw [q]; simp⟩⟩
theorem Un.refl : Un fs ex H H h h := Un.kept fun _ _ q => q
theorem Un.laid (k : ∀ b u, h.get? b = some u → h'.get? b = some u) (hp : h.objs.size ≤ a) (hn : H a = none) : Un fs ex H (upd H a o) h h' where
  keep := fun b u q _ _ _ => k b u q
  slot := fun b u q _ _ _ => ⟨u.slots, k b u q⟩
  free := fun b u q n _ => by rw [upd_ne (Nat.ne_of_lt (Nat.lt_of_lt_of_le (Heap.lt_size q) hp))]; exact n
  there := fun b u q _ => ⟨u, k b u q⟩
  tups := fun b xs q => by rw [upd_ne (ne_of_none q hn)]; exact q
  frzs := fun b u xs q => by rw [upd_ne (ne_of_none q hn)]; exact q
  tbls := fun b ps q => ⟨#[], by rw [upd_ne (ne_of_none q hn), q]; simp⟩
theorem Un.write (mu : Mut (H x)) (he : e = x ∨ H e = some (.own x)) (k : ∀ b u, b ≠ e → h.get? b = some u → h'.get? b = some u) (heo : ∃ u, h'.get? e = some u) : Un fs ex H (upd H x o) h h' := by
  have hx : ∀ b, H b = none → b ≠ x := fun b n z => by subst z; rw [n] at mu; exact mu
  have hb : ∀ b, H b = none → b ≠ e := fun b n z => by
    subst z
    rcases he with r | r
    · exact hx b n r
    · rw [n] at r; cases r
  have hm : ∀ b u, H b = some u → ¬ Mut (some u) → b ≠ x := fun b u q nm z => by subst z; rw [q] at mu; exact nm mu
  refine ⟨fun b u q n _ _ => k b u (hb b n) q, fun b u q n _ _ => ⟨u.slots, k b u (hb b n) q⟩, fun b u q n _ => by rw [upd_ne (hx b n)]; exact n, fun b u q _ => ?_,
    fun b xs q => by rw [upd_ne (hm b _ q fun z => z)]; exact q, fun b u xs q => by rw [upd_ne (hm b _ q fun z => z)]; exact q, fun b ps q => ⟨#[], by rw [upd_ne (hm b _ q fun z => z), q]; simp⟩⟩
  by_cases hbe : b = e
  · subst hbe; exact heo
  · exact ⟨u, k b u hbe q⟩
end
def trk (h : Heap) (H : Hp) : List Addr := (List.range h.objs.size).filter fun a => (H a).isSome
def hidT (h : Heap) (H : Hp) : Heap := PySem.W.hideAll h (trk h H)
theorem hidT_size (h : Heap) (H : Hp) : (hidT h H).objs.size = h.objs.size := PySem.W.hideAll_size _ _
theorem hidT_get {h : Heap} {H : Hp} {b : Addr} {o : Obj} (e : h.get? b = some o) (n : H b = none) : (hidT h H).get? b = some o :=
  PySem.W.hideAll_get _ e fun hm => by
    have q : (H b).isSome = true := (List.mem_filter.mp hm).2
    rw [n] at q; simp at q
theorem of_hidT {h : Heap} {H : Hp} {b : Addr} {o : Obj} (e : (hidT h H).get? b = some o) : h.get? b = some o ∧ H b = none := by
  have e' : h.get? b = some o := PySem.W.of_hideAll (trk h H) e
  refine ⟨e', ?_⟩
  cases q : H b with
  | none => rfl
  | some x =>
    have hm : b ∈ trk h H := List.mem_filter.mpr ⟨List.mem_range.mpr (Heap.lt_size e'), by simp [q]⟩
    have z : (hidT h H).get? b = none := PySem.W.hideAll_none (trk h H) hm
    rw [z] at e; cases e
def allNews (g h : Heap) (L : Addr) : List (Addr × Obj) := (List.range h.objs.size).filterMap fun a => if a = L ∨ (g.get? a).isSome = true then none else (h.get? a).map fun o => (a, o)
def rest (g h : Heap) (L d : Addr) : List (Addr × Obj) := (allNews g h L).filter fun p => decide (p.1 ≠ d)
end L2
namespace L2
open PySem PySem.Spec PyProof.Rows
structure Mod (K : PySem.W.Frag) (mg : Str → Option Value) (base : Heap) : Prop where
  kin : K.In base
  glob : base.Ns mainGlobals mg
  blt : ∃ mb, base.Ns builtinsNs mb ∧ ∀ x : Str, x ≠ "__name__" → mb x = bootBuiltins x
  nolimit : base.NoLimit
/-- the context: a def's body (or a comprehension's block) running. base: fixed through the whole law; s₀, H₀: the entry; outer: the frames whose slots others may change (a def's callers); stack: all frames that run;
   ex: iterators that were made ahead of the entry and are walked here (a comprehension's); fn: the names whose cells were made at the entry (a def: all; a comprehension's block: its own); calm: not within an except suite; pn: pins that every state bears; xe: what is wanted of an exception that leaves the code -/
structure Cx where
  prog : Program
  w : World
  K : PySem.W.Frag
  mg : Str → Option Value
  base : Heap
  A : Around
  N : List Str
  s₀ : Shared
  H₀ : Hp
  env : Env
  outer : List Env
  stack : List Env
  ex : List Addr
  fn : Str → Bool
  calm : Bool
  pn : List (Addr × Obj)
  xe : Value → Shared → Prop
def frs (l : List Env) : List Addr := l.filterMap (·.frame)
abbrev Cx.fs (X : Cx) : List Addr := frs X.outer
def Vis (sc : Scope) (x : Str) : Prop := sc.names.lookup x = some .local ∨ sc.names.lookup x = some .cell ∨ sc.names.lookup x = some .free
def Loc (sc : Scope) (x : Str) : Prop := sc.names.lookup x = some .local ∨ sc.names.lookup x = some .cell
def Look (env : Env) (h : Heap) (m : Str → Option Value) (x : Str) (u : Value) : Prop :=
  (env.kindOf x = some .local ∧ m x = some u) ∨ ((env.kindOf x = some .cell ∨ env.kindOf x = some .free) ∧ ∃ c, env.cells.lookup x = some c ∧ h.IsCell c (some u))
structure Cx.Ok (X : Cx) : Prop where
  mod : Mod X.K X.mg X.base
  kind : X.env.scope.kind = .function
  glob : X.env.globals = mainGlobals
  blt : X.env.builtins = builtinsNs
  above : X.s₀.heap.objs.size ≤ X.env.locals
  inj : ∀ x y c, X.env.cells.lookup x = some c → X.env.cells.lookup y = some c → x = y
  has : ∀ x, (X.env.kindOf x = some .cell ∨ X.env.kindOf x = some .free) → ∃ c, X.env.cells.lookup x = some c
  cab : ∀ x c, X.fn x = true → X.env.cells.lookup x = some c → X.s₀.heap.objs.size ≤ c
  hd : X.calm = true → X.A.handled = none
  frames : X.A.frames = some X.stack
  stk : X.stack = X.outer ∨ (X.stack = X.env :: X.outer ∧ X.env.frame = some X.env.locals)
  exf : ∀ b ∈ X.ex, b ≠ X.env.locals ∧ ∀ x c, X.env.cells.lookup x = some c → c ≠ b
  bs : ∀ b o, X.base.get? b = some o → X.s₀.heap.get? b = some o ∧ X.H₀ b = none
  bsz : X.base.objs.size ≤ X.s₀.heap.objs.size
  noex : ∀ b o, X.base.get? b = some o → b ∉ X.ex
  exfs : ∀ b ∈ X.ex, b ∉ X.fs
  funs : X.s₀.heap.FunFrames X.base X.outer
  frf : ∀ b ∈ X.fs, X.H₀ b = none
structure Inv (X : Cx) (pins : List (Addr × Obj)) (σ : List (Option V)) (H : Hp) (s : Shared) : Prop where
  ok : X.Ok
  os : s.os = X.s₀.os
  bare : AllBare s.gens
  base : Un X.fs X.ex X.H₀ H X.s₀.heap s.heap
  loc : ∃ m, s.heap.Ns X.env.locals m ∧ ∀ (i : Nat) (x : Str) (v : V), X.N[i]? = some x → σ[i]? = some (some v) → Vis X.env.scope x → ∃ u, RelV v u ∧ Look X.env s.heap m x u
  cell : ∀ x c, X.env.cells.lookup x = some c → ∃ v, s.heap.IsCell c v
  free : H X.env.locals = none
  freeC : ∀ x c, X.env.cells.lookup x = some c → H c = none
  pin : ∀ p ∈ X.pn ++ pins, s.heap.get? p.1 = some p.2 ∧ H p.1 = none ∧ p.1 ≠ X.env.locals ∧ p.1 ∉ X.fs ∧ ∀ v, p.2.data ≠ .cell v
  hok : HOk X.prog X.w H s.heap
  len : σ.length = X.N.length
section
variable {X : Cx} {pins : List (Addr × Obj)} {σ : List (Option V)} {H H' : Hp} {s : Shared} {h' : Heap}
theorem Cx.Ok.nofr (ok : X.Ok) {b : Addr} {o : Obj} (e : X.base.get? b = some o) : b ∉ X.fs := fun hb => by
  have := (ok.funs.mem hb).1
  rw [e] at this; cases this
theorem Inv.bs (I : Inv X pins σ H s) : ∀ b o, X.base.get? b = some o → s.heap.get? b = some o ∧ H b = none := fun b o e =>
  ⟨I.base.keep b o (I.ok.bs b o e).1 (I.ok.bs b o e).2 (I.ok.nofr e) (I.ok.noex b o e), I.base.free b o (I.ok.bs b o e).1 (I.ok.bs b o e).2 (I.ok.noex b o e)⟩
theorem Inv.bk (I : Inv X pins σ H s) : ∀ b o, X.base.get? b = some o → s.heap.get? b = some o := fun b o e => (I.bs b o e).1
theorem Inv.mod (I : Inv X pins σ H s) : Mod X.K X.mg X.base := I.ok.mod
theorem Inv.kIn (I : Inv X pins σ H s) : X.K.In s.heap := I.ok.mod.kin.keeps I.bk
theorem Inv.lt (I : Inv X pins σ H s) : X.env.locals < s.heap.objs.size := let ⟨_, hn, _⟩ := I.loc; hn.lt
theorem Inv.sz (I : Inv X pins σ H s) : X.s₀.heap.objs.size ≤ s.heap.objs.size := Nat.le_trans I.ok.above (Nat.le_of_lt I.lt)
theorem Inv.nofs (I : Inv X pins σ H s) {a : Addr} (h : s.heap.objs.size ≤ a) : a ∉ X.fs := fun hb => by
  obtain ⟨_, o, ho, _⟩ := I.ok.funs.mem hb
  exact absurd (Nat.lt_of_lt_of_le (Heap.lt_size ho) (Nat.le_trans I.sz h)) (Nat.lt_irrefl _)
theorem Inv.cne (I : Inv X pins σ H s) : ∀ x c, X.env.cells.lookup x = some c → c ≠ X.env.locals := fun x c e z => by
  obtain ⟨v, o, ho, hd⟩ := I.cell x c e
  obtain ⟨m, ⟨o', es, ep, ho', hd', _⟩, _⟩ := I.loc
  rw [z, ho'] at ho; cases ho; rw [hd'] at hd; cases hd
theorem Inv.funs (I : Inv X pins σ H s) : s.heap.FunFrames X.base X.outer := by
  have all : ∀ (l : List Env), (∀ b ∈ frs l, b ∈ X.fs) → X.s₀.heap.FunFrames X.base l → s.heap.FunFrames X.base l := by
    intro l
    induction l with
    | nil => intro _ _; trivial
    | cons env r ih =>
      intro hs hl
      obtain ⟨hk, ⟨L, o, hf, hn, ho, hd⟩, hr⟩ := hl
      have hL : L ∈ X.fs := hs L (by unfold frs; rw [List.filterMap_cons, hf]; exact List.mem_cons_self)
      obtain ⟨sl, e⟩ := I.base.slot L o ho (I.ok.frf L hL) hL fun z => I.ok.exfs L z hL
      exact ⟨hk, ⟨L, _, hf, hn, e, hd⟩, ih (fun b hb => hs b (by unfold frs; rw [List.filterMap_cons, hf]; exact List.mem_cons_of_mem _ hb)) hr⟩
  exact all X.outer (fun _ hb => hb) I.ok.funs
theorem Inv.stack (I : Inv X pins σ H s) : s.heap.FunFrames X.base X.stack := by
  rcases I.ok.stk with e | ⟨e, hf⟩
  · rw [e]; exact I.funs
  · rw [e]
    obtain ⟨m, hn, _⟩ := I.loc
    refine .cons (by rw [I.ok.kind]; decide) hf hn ?_ I.funs
    exact Heap.get?_none_of_le (Nat.le_trans I.ok.bsz I.ok.above)
theorem Inv.stkSub (I : Inv X pins σ H s) : ∀ b ∈ frs X.stack, b ∈ X.env.locals :: X.fs := fun b hb => by
  rcases I.ok.stk with e | ⟨e, hf⟩
  · rw [e] at hb; exact List.mem_cons_of_mem _ hb
  · rw [e] at hb
    unfold frs at hb
    rw [List.filterMap_cons, hf] at hb
    exact hb
theorem Inv.stkFree (I : Inv X pins σ H s) : ∀ b ∈ frs X.stack, H b = none := fun b hb => by
  rcases List.mem_cons.mp (I.stkSub b hb) with e | hb
  · rw [e]; exact I.free
  · obtain ⟨_, o, ho, _⟩ := I.ok.funs.mem hb
    exact I.base.free b o ho (I.ok.frf b hb) fun z => I.ok.exfs b z hb
theorem Inv.step {g' : Array GenState} {t' : Nat} {d' : Drawn} {ch : List Addr} (I : Inv X pins σ H s)
    (hch : ∀ b ∈ ch, (b ∈ X.ex ∨ X.s₀.heap.objs.size ≤ b) ∧ b ≠ X.env.locals ∧ (∀ x c, X.env.cells.lookup x = some c → c ≠ b) ∧ ∀ p ∈ X.pn ++ pins, p.1 ≠ b)
    (keep : ∀ b o, b ≠ X.env.locals → b ∉ X.fs → b ∉ ch → s.heap.get? b = some o → H b = none → h'.get? b = some o)
    (slot : ∀ b o, b ≠ X.env.locals → b ∈ X.fs → b ∉ ch → s.heap.get? b = some o → H b = none → ∃ sl, h'.get? b = some { o with slots := sl }) (free : ∀ b o, b ∉ ch → s.heap.get? b = some o → H b = none → H' b = none)
    (there : ∀ b o, b ∉ ch → s.heap.get? b = some o → ∃ o', h'.get? b = some o')
    (tups : ∀ b xs, H b = some (.tup xs) → H' b = some (.tup xs)) (frzs : ∀ b o u, H b = some (.frz o u) → H' b = some (.frz o u)) (tbls : ∀ b ps, H b = some (.tbl ps) → ∃ more, H' b = some (.tbl (ps ++ more)))
    (ns : ∀ m, s.heap.Ns X.env.locals m → h'.Ns X.env.locals m) (hok : HOk X.prog X.w H' h') (hg : AllBare g') :
    Inv X pins σ H' { s with heap := h', gens := g', drawn := d', toks := t' } := by
  have neL : ∀ b o, X.s₀.heap.get? b = some o → b ≠ X.env.locals := fun b o e => Nat.ne_of_lt (Nat.lt_of_lt_of_le (Heap.lt_size e) I.ok.above)
  have neC : ∀ b o, X.s₀.heap.get? b = some o → b ∉ X.ex → b ∉ ch := fun b o e hx hb => by
    rcases (hch b hb).1 with z | z
    · exact hx z
    · exact absurd (Nat.lt_of_lt_of_le (Heap.lt_size e) z) (Nat.lt_irrefl _)
  have cellK : ∀ x c, X.env.cells.lookup x = some c → ∀ v, s.heap.IsCell c v → h'.IsCell c v := fun x c e v ⟨o, ho, hd⟩ => by
    have nch : c ∉ ch := fun z => (hch c z).2.2.1 x c e rfl
    by_cases hc : c ∈ X.fs
    · obtain ⟨sl, q⟩ := slot c o (I.cne x c e) hc nch ho (I.freeC x c e)
      exact ⟨_, q, hd⟩
    · exact ⟨o, keep c o (I.cne x c e) hc nch ho (I.freeC x c e), hd⟩
  refine ⟨I.ok, I.os, hg, ⟨fun b o e n hb hx => ?_, fun b o e n hb hx => ?_, fun b o e n hx => ?_, fun b o e hx => ?_, fun b xs e => tups b xs (I.base.tups b xs e), fun b o xs e => frzs b o xs (I.base.frzs b o xs e), fun b ps e => ?_⟩, ?_, fun x c e => ?_, ?_, fun x c e => ?_, fun p hp => ?_, hok, I.len⟩
  · exact keep b o (neL b o e) hb (neC b o e hx) (I.base.keep b o e n hb hx) (I.base.free b o e n hx)
  · obtain ⟨sl, e1⟩ := I.base.slot b o e n hb hx
    obtain ⟨sl', e2⟩ := slot b _ (neL b o e) hb (neC b o e hx) e1 (I.base.free b o e n hx)
    exact ⟨sl', e2⟩
  · obtain ⟨o', e1⟩ := I.base.there b o e hx
    exact free b o' (neC b o e hx) e1 (I.base.free b o e n hx)
  · obtain ⟨o', e1⟩ := I.base.there b o e hx
    exact there b o' (neC b o e hx) e1
  · obtain ⟨m1, e1⟩ := I.base.tbls b ps e
    obtain ⟨m2, e2⟩ := tbls b _ e1
    exact ⟨m1 ++ m2, by rw [e2, Array.append_assoc]⟩
  · obtain ⟨m, hn, hl⟩ := I.loc
    refine ⟨m, ns m hn, fun i x v e1 e2 e3 => ?_⟩
    obtain ⟨u, r, l⟩ := hl i x v e1 e2 e3
    refine ⟨u, r, ?_⟩
    rcases l with l | ⟨k, c, e, z⟩
    · exact .inl l
    · exact .inr ⟨k, c, e, cellK x c e _ z⟩
  · obtain ⟨v, z⟩ := I.cell x c e
    exact ⟨v, cellK x c e v z⟩
  · obtain ⟨m, ⟨o, _, _, ho, _⟩, _⟩ := I.loc
    exact free _ o (fun z => (hch _ z).2.1 rfl) ho I.free
  · obtain ⟨v, o, ho, hd⟩ := I.cell x c e
    exact free c o (fun z => (hch c z).2.2.1 x c e rfl) ho (I.freeC x c e)
  · obtain ⟨e, n, ne, nf, d⟩ := I.pin p hp
    have nch : p.1 ∉ ch := fun z => (hch p.1 z).2.2.2 p hp rfl
    exact ⟨keep p.1 p.2 ne nf nch e n, free p.1 p.2 nch e n, ne, nf, d⟩
theorem Inv.un {t' : Nat} (I : Inv X pins σ H s) (u : Un X.fs [] H H' s.heap h') (hok : HOk X.prog X.w H' h') : Inv X pins σ H' { s with heap := h', toks := t' } := by
  obtain ⟨m, ⟨o, es, ep, ho, r⟩, _⟩ := id I.loc
  obtain ⟨sl, hL⟩ := u.any ho I.free (by simp)
  exact I.step (g' := s.gens) (d' := s.drawn) (ch := []) (fun _ z => nomatch z) (fun b o _ hb _ e n => u.keep b o e n hb (by simp)) (fun b o _ hb _ e n => u.slot b o e n hb (by simp)) (fun b o _ e n => u.free b o e n (by simp)) (fun b o _ e => u.there b o e (by simp)) u.tups u.frzs u.tbls (fun m' hm => by
    obtain ⟨o', es', ep', ho', r'⟩ := hm
    rw [ho] at ho'; cases ho'
    exact ⟨_, es', ep', hL, r'⟩) hok I.bare
theorem Inv.call {g' : Array GenState} {t' : Nat} {d' : Drawn} {ch : List Addr} (I : Inv X pins σ H s) (u : Un (frs X.stack) ch H H' s.heap h') (hok : HOk X.prog X.w H' h') (hg : AllBare g')
    (hch : ∀ b ∈ ch, (b ∈ X.ex ∨ X.s₀.heap.objs.size ≤ b) ∧ b ≠ X.env.locals ∧ (∀ x c, X.env.cells.lookup x = some c → c ≠ b) ∧ ∀ p ∈ X.pn ++ pins, p.1 ≠ b) :
    Inv X pins σ H' { s with heap := h', gens := g', drawn := d', toks := t' } := by
  obtain ⟨m, ⟨o, es, ep, ho, r⟩, _⟩ := id I.loc
  obtain ⟨sl, hL⟩ := u.any ho I.free fun z => (hch _ z).2.1 rfl
  exact I.step (ch := ch) hch (fun b o hL hb hc e n => u.keep b o e n (fun z => (List.mem_cons.mp (I.stkSub b z)).elim hL hb) hc) (fun b o _ _ hc e n => u.any e n hc) (fun b o hc e n => u.free b o e n hc) (fun b o hc e => u.there b o e hc) u.tups u.frzs u.tbls (fun m' hm => by
    obtain ⟨o', es', ep', ho', r'⟩ := hm
    rw [ho] at ho'; cases ho'
    exact ⟨_, es', ep', hL, r'⟩) hok hg
theorem Inv.turned {t' : Nat} {it : Addr} (I : Inv X pins σ H s) (k : ∀ b o, b ≠ it → s.heap.get? b = some o → h'.get? b = some o) (hn : H it = none) (hL : it ≠ X.env.locals)
    (h1 : it ∈ X.ex ∨ X.s₀.heap.objs.size ≤ it) (h2 : ∀ x c, X.env.cells.lookup x = some c → c ≠ it) (h3 : ∀ p ∈ X.pn ++ pins, p.1 ≠ it) : Inv X pins σ H { s with heap := h', toks := t' } := by
  have nit : ∀ b u, H b = some u → b ≠ it := fun b u e z => by rw [z, hn] at e; cases e
  refine I.step (g' := s.gens) (d' := s.drawn) (ch := [it]) (fun b hb => ?_) (fun b o _ _ hc e _ => k b o (fun z => hc (by simp [z])) e) (fun b o _ _ hc e _ => ⟨o.slots, k b o (fun z => hc (by simp [z])) e⟩) (fun _ _ _ _ n => n)
    (fun b o hc e => ⟨o, k b o (fun z => hc (by simp [z])) e⟩) (fun _ _ e => e) (fun _ _ _ e => e) (fun b ps e => ⟨#[], by rw [e]; simp⟩) (fun m hm => ?_) (fun b u e => ?_) I.bare
  · have e : b = it := by simpa using hb
    subst e
    exact ⟨h1, hL, h2, h3⟩
  · obtain ⟨o, es, ep, ho, r⟩ := hm
    exact ⟨o, es, ep, k _ o (Ne.symm hL) ho, r⟩
  · refine (I.hok b u e).stay (fun c v hc q => k c v ?_ q) (fun _ q => q) fun _ _ q => q
    rcases hc with z | z
    · rw [z]; exact nit b u e
    · exact nit c _ z
theorem Inv.tok (I : Inv X pins σ H s) (t : Nat) : Inv X pins σ H { s with toks := t } := I.un (h' := s.heap) (t' := t) Un.refl I.hok
theorem Inv.kept {t' : Nat} (I : Inv X pins σ H s) (k : ∀ b u, s.heap.get? b = some u → h'.get? b = some u) : Inv X pins σ H { s with heap := h', toks := t' } := I.un (Un.kept k) (I.hok.kept k)
theorem Inv.laid {a : Addr} {o : HO} {t' : Nat} (I : Inv X pins σ H s) (k : ∀ b u, s.heap.get? b = some u → h'.get? b = some u) (hp : s.heap.objs.size ≤ a) (new : ObjOk X.prog X.w (upd H a o) h' a o) :
    Inv X pins σ (upd H a o) { s with heap := h', toks := t' } := I.un (Un.laid k hp (I.hok.fresh hp)) (I.hok.laid k hp new)
theorem Inv.write {x e : Addr} {o : HO} {t' : Nat} (I : Inv X pins σ H s) (mu : Mut (H x)) (he : e = x ∨ H e = some (.own x)) (k : ∀ b u, b ≠ e → s.heap.get? b = some u → h'.get? b = some u) (heo : ∃ u, h'.get? e = some u)
    (new : ObjOk X.prog X.w (upd H x o) h' x o) : Inv X pins σ (upd H x o) { s with heap := h', toks := t' } := I.un (Un.write mu he k heo) (I.hok.write mu he k heo new)
theorem Inv.pins_of {pins' : List (Addr × Obj)} (I : Inv X pins σ H s) (h : ∀ p ∈ pins', s.heap.get? p.1 = some p.2 ∧ H p.1 = none ∧ p.1 ≠ X.env.locals ∧ p.1 ∉ X.fs ∧ ∀ v, p.2.data ≠ .cell v) : Inv X pins' σ H s :=
  ⟨I.ok, I.os, I.bare, I.base, I.loc, I.cell, I.free, I.freeC, fun p hp => (List.mem_append.mp hp).elim (fun z => I.pin p (List.mem_append_left _ z)) (h p), I.hok, I.len⟩
theorem nodup_ix {N : List Str} (hN : N.Nodup) {i j : Nat} {x : Str} (a : N[i]? = some x) (b : N[j]? = some x) : i = j := by
  obtain ⟨h1, e1⟩ := List.getElem?_eq_some_iff.mp a
  obtain ⟨h2, e2⟩ := List.getElem?_eq_some_iff.mp b
  exact (List.getElem_inj hN).mp (e1.trans e2.symm)
theorem store_ok2 {M : Model} {A : Around} {E : Value → Shared → Prop} {i : Nat} {x : Str} {v : V} {u : Value} {Q : Unit → Shared → Prop} (I : Inv X pins σ H s) (hN : X.N.Nodup) (hi : X.N[i]? = some x) (hx : Loc X.env.scope x) (r : RelV v u)
    (h : ∀ s', Inv X pins (σ.set i (some v)) H s' → (∃ a, Heap.SameBut a s.heap s'.heap ∧ (a = X.env.locals ∨ X.env.cells.lookup x = some a)) → Q () s') (hf : X.fn x = true ∨ X.env.scope.names.lookup x = some .local := by first | exact .inl rfl | exact .inr rfl | assumption) : wpAny M A (storeName X.env x u) Q E s := by
  obtain ⟨m, hn, hl⟩ := id I.loc
  have hcls : (X.env.scope.kind == .class || (X.env.scope.kind == .module && X.env.locals != X.env.globals)) = false := by rw [I.ok.kind]; rfl
  have hiσ : i < σ.length := by rw [I.len]; exact (List.getElem?_eq_some_iff.mp hi).1
  have cne := I.cne
  have tracked : ∀ {a : Addr} {h' : Heap}, (∃ o, s.heap.get? a = some o ∧ H a = none) → Heap.SameBut a s.heap h' → HOk X.prog X.w H h' := fun {a h'} ha hs b ob e => by
    obtain ⟨_, _, hfree⟩ := ha
    refine (I.hok b ob e).stay (fun c w' hc q => (hs.2 c ?_).trans q) (fun _ q => q) fun _ _ q => q
    rintro rfl
    rcases hc with rfl | hc
    · rw [hfree] at e; cases e
    · rw [hfree] at hc; cases hc
  rcases hx with hk | hk
  · refine wpAny_storeName_local hk hn (fun h' hn' hs => ?_) hcls
    obtain ⟨oL, _, _, hoL, _⟩ := id hn
    refine h _ ⟨I.ok, I.os, I.bare, ⟨fun b o e n hb hx => ?_, fun b o e n hb hx => ?_, I.base.free, fun b o e hx => ?_, I.base.tups, I.base.frzs, I.base.tbls⟩, ⟨_, hn', fun j y v' e1 e2 e3 => ?_⟩, fun y c e => ?_, I.free, I.freeC, fun p hp => ?_, tracked ⟨oL, hoL, I.free⟩ hs, by simpa using I.len⟩ ⟨_, hs, .inl rfl⟩
    · exact (hs.2 b (Nat.ne_of_lt (Nat.lt_of_lt_of_le (Heap.lt_size e) I.ok.above))).trans (I.base.keep b o e n hb hx)
    · obtain ⟨sl, e1⟩ := I.base.slot b o e n hb hx
      exact ⟨sl, (hs.2 b (Nat.ne_of_lt (Nat.lt_of_lt_of_le (Heap.lt_size e) I.ok.above))).trans e1⟩
    · obtain ⟨o', e1⟩ := I.base.there b o e hx
      exact ⟨o', (hs.2 b (Nat.ne_of_lt (Nat.lt_of_lt_of_le (Heap.lt_size e) I.ok.above))).trans e1⟩
    · by_cases hj : j = i
      · subst hj
        rw [hi] at e1; cases e1
        rw [List.getElem?_set_self hiσ] at e2
        cases e2
        exact ⟨u, r, .inl ⟨hk, by simp⟩⟩
      · rw [List.getElem?_set_ne (Ne.symm hj)] at e2
        obtain ⟨u', r', q⟩ := hl j y v' e1 e2 e3
        refine ⟨u', r', ?_⟩
        rcases q with ⟨k, e⟩ | ⟨k, c, e, z⟩
        · refine .inl ⟨k, ?_⟩
          have : y ≠ x := fun e => hj (nodup_ix hN e1 (e ▸ hi))
          simp [this, e]
        · exact .inr ⟨k, c, e, z.sameBut hs (cne y c e)⟩
    · obtain ⟨w', z⟩ := I.cell y c e
      exact ⟨w', z.sameBut hs (cne y c e)⟩
    · obtain ⟨e, n, ne, nf, d⟩ := I.pin p hp
      exact ⟨(hs.2 p.1 ne).trans e, n, ne, nf, d⟩
  · have hfn : X.fn x = true := by
      rcases hf with z | z
      · exact z
      · rw [z] at hk; cases hk
    obtain ⟨c, hc⟩ := I.ok.has x (.inl hk)
    obtain ⟨w', z⟩ := I.cell x c hc
    refine wpAny_storeName_cell I.ok.kind hk hc z (fun h' hc' hs => ?_)
    obtain ⟨oc, hoc, hocd⟩ := id z
    refine h { s with heap := h' } ⟨I.ok, I.os, I.bare, ⟨fun b o e n hb hx => ?_, fun b o e n hb hx => ?_, I.base.free, fun b o e hx => ?_, I.base.tups, I.base.frzs, I.base.tbls⟩, ⟨m, hn.sameBut hs (Ne.symm (cne x c hc)), fun j y v' e1 e2 e3 => ?_⟩, fun y c' e => ?_, I.free, I.freeC, fun p hp => ?_, tracked ⟨oc, hoc, I.freeC x c hc⟩ hs, by simpa using I.len⟩ ⟨c, hs, .inr hc⟩
    · exact (hs.2 b (Nat.ne_of_lt (Nat.lt_of_lt_of_le (Heap.lt_size e) (I.ok.cab x c hfn hc)))).trans (I.base.keep b o e n hb hx)
    · obtain ⟨sl, e1⟩ := I.base.slot b o e n hb hx
      exact ⟨sl, (hs.2 b (Nat.ne_of_lt (Nat.lt_of_lt_of_le (Heap.lt_size e) (I.ok.cab x c hfn hc)))).trans e1⟩
    · obtain ⟨o', e1⟩ := I.base.there b o e hx
      exact ⟨o', (hs.2 b (Nat.ne_of_lt (Nat.lt_of_lt_of_le (Heap.lt_size e) (I.ok.cab x c hfn hc)))).trans e1⟩
    · by_cases hj : j = i
      · subst hj
        rw [hi] at e1; cases e1
        rw [List.getElem?_set_self hiσ] at e2
        cases e2
        exact ⟨u, r, .inr ⟨.inl hk, c, hc, hc'⟩⟩
      · rw [List.getElem?_set_ne (Ne.symm hj)] at e2
        obtain ⟨u', r', q⟩ := hl j y v' e1 e2 e3
        refine ⟨u', r', ?_⟩
        rcases q with q | ⟨k, c', e, z'⟩
        · exact .inl q
        · refine .inr ⟨k, c', e, z'.sameBut hs ?_⟩
          rintro rfl
          exact hj (nodup_ix hN e1 (I.ok.inj _ _ _ e hc ▸ hi))
    · by_cases hcc : c' = c
      · subst hcc; exact ⟨_, hc'⟩
      · obtain ⟨w2, z2⟩ := I.cell y c' e
        exact ⟨w2, z2.sameBut hs hcc⟩
    · obtain ⟨e, n, ne, nf, d⟩ := I.pin p hp
      refine ⟨(hs.2 p.1 ?_).trans e, n, ne, nf, d⟩
      intro q
      rw [q, hoc] at e
      have q' : oc = p.2 := Option.some.inj e
      exact d w' (by rw [← q']; exact hocd)
theorem store_ok {M : Model} {A : Around} {E : Value → Shared → Prop} {i : Nat} {x : Str} {v : V} {u : Value} {Q : Unit → Shared → Prop} (I : Inv X pins σ H s) (hN : X.N.Nodup) (hi : X.N[i]? = some x) (hx : Loc X.env.scope x) (r : RelV v u)
    (h : ∀ s', Inv X pins (σ.set i (some v)) H s' → Q () s') (hf : X.fn x = true ∨ X.env.scope.names.lookup x = some .local := by first | exact .inl rfl | exact .inr rfl | assumption) : wpAny M A (storeName X.env x u) Q E s :=
  store_ok2 I hN hi hx r (fun s' I' _ => h s' I') hf
theorem Inv.call' {s' : Shared} {ch : List Addr} (I : Inv X pins σ H s) (ho : s'.os = s.os) (u : Un (frs X.stack) ch H H' s.heap s'.heap) (hok : HOk X.prog X.w H' s'.heap) (hg : AllBare s'.gens)
    (hch : ∀ b ∈ ch, (b ∈ X.ex ∨ X.s₀.heap.objs.size ≤ b) ∧ b ≠ X.env.locals ∧ (∀ x c, X.env.cells.lookup x = some c → c ≠ b) ∧ ∀ p ∈ X.pn ++ pins, p.1 ≠ b) : Inv X pins σ H' s' := by
  obtain ⟨h', g', d', t', o'⟩ := s'
  have e : o' = s.os := ho
  subst e
  exact I.call (g' := g') (t' := t') (d' := d') u hok hg hch
end
abbrev XK := Value → Option Addr → Hp → Prop
abbrev St := List (Option V)
abbrev VK := V → Hp → Prop
abbrev TE := St → Hp → VK → Prop
abbrev TT := St → Hp → (Bool → Hp → Prop) → Prop
abbrev TA := St → Hp → (List V → Hp → Prop) → Prop
structure Ends where
  nx : St → Hp → Prop
  rt : VK
  bk : St → Hp → Prop := fun _ _ => False
  ct : St → Hp → Prop := fun _ _ => False
abbrev TS := Ends → St → Hp → Prop
def EP (X : Cx) (pins : List (Addr × Obj)) (σ : St) (Q : VK) (u : Value) (s' : Shared) : Prop := ∃ v H', Inv X pins σ H' s' ∧ RelV v u ∧ Q v H'
def TP (X : Cx) (pins : List (Addr × Obj)) (σ : St) (Q : Bool → Hp → Prop) (b : Bool) (s' : Shared) : Prop := ∃ H', Inv X pins σ H' s' ∧ Q b H'
def AP (X : Cx) (pins : List (Addr × Obj)) (σ : St) (Q : List V → Hp → Prop) (us : List Value) (s' : Shared) : Prop := ∃ vs H', Inv X pins σ H' s' ∧ Vals vs us ∧ Q vs H'
def SP (X : Cx) (pins : List (Addr × Obj)) (D : Ends) (f : Flow) (s' : Shared) : Prop :=
  match f with
  | .next => ∃ σ' H', Inv X pins σ' H' s' ∧ D.nx σ' H'
  | .brk => ∃ σ' H', Inv X pins σ' H' s' ∧ D.bk σ' H'
  | .cont => ∃ σ' H', Inv X pins σ' H' s' ∧ D.ct σ' H'
  | .ret u => ∃ v σ' H', Inv X pins σ' H' s' ∧ RelV v u ∧ D.rt v H'
def PE (X : Cx) (e : Expr) (t : TE) : Prop :=
  ∀ (pins : List (Addr × Obj)) (s : Shared) (σ : St) (H : Hp) (Q : VK), Inv X pins σ H s → t σ H Q → wpAny (model X.prog X.w) X.A (eval e X.env) (EP X pins σ Q) X.xe s
def PT (X : Cx) (e : Expr) (t : TT) : Prop :=
  ∀ (pins : List (Addr × Obj)) (s : Shared) (σ : St) (H : Hp) (Q : Bool → Hp → Prop), Inv X pins σ H s → t σ H Q → wpAny (model X.prog X.w) X.A (isTrue e X.env (eval e X.env)) (TP X pins σ Q) X.xe s
def PW (X : Cx) (e : Expr) (t : TT) : Prop :=
  ∀ (whole : Sem Value) (pins : List (Addr × Obj)) (s : Shared) (σ : St) (H : Hp) (Q : Bool → Hp → Prop), Inv X pins σ H s → t σ H Q → wpAny (model X.prog X.w) X.A (isTrue e X.env whole) (TP X pins σ Q) X.xe s
theorem PW.pt {X : Cx} {e : Expr} {t : TT} (h : PW X e t) : PT X e t := h _
def PA (X : Cx) (es : List Expr) (t : TA) : Prop :=
  ∀ (pos : Pos) (pins : List (Addr × Obj)) (s : Shared) (σ : St) (H : Hp) (Q : List V → Hp → Prop), Inv X pins σ H s → t σ H Q → wpAny (model X.prog X.w) X.A (spliced (backTo pos (starEach es X.env))) (AP X pins σ Q) X.xe s
def PS (X : Cx) (st : Stmt) (t : TS) : Prop :=
  ∀ (pins : List (Addr × Obj)) (s : Shared) (σ : St) (H : Hp) (D : Ends), Inv X pins σ H s → t D σ H → wpAny (model X.prog X.w) X.A (exec st X.env) (SP X pins D) X.xe s
def PSs (X : Cx) (st : List Stmt) (t : TS) : Prop :=
  ∀ (pins : List (Addr × Obj)) (s : Shared) (σ : St) (H : Hp) (D : Ends), Inv X pins σ H s → t D σ H → wpAny (model X.prog X.w) X.A (execs st X.env) (SP X pins D) X.xe s
theorem thn {α : Type} {t : Sem α} {Q Q' : α → Shared → Prop} {M : Model} {A : Around} {E : Value → Shared → Prop} {s : Shared} (h : wpAny M A t Q E s) (hQ : ∀ a s, Q a s → Q' a s) : wpAny M A t Q' E s := wpAny_mono h hQ fun _ _ x => x
end L2
namespace L2
open PySem PySem.Spec PyProof.Rows
section
variable {X : Cx}
def tVar (i : Nat) : TE := fun σ H Q => ∃ v, σ[i]? = some (some v) ∧ Q v H
def tC (v : V) : TE := fun _ H Q => Q v H
theorem pe_var {i : Nat} {x : Str} {pos : Pos} (hN : X.N[i]? = some x) (hv : Vis X.env.scope x) (hd : (x == ("__debug__" : Str)) = false := by decide) (hcd : (x == ("__classdict__" : Str)) = false := by decide) : PE X (.Name x pos) (tVar i) := by
  intro pins s σ H Q I h
  obtain ⟨v, e, h⟩ := h
  obtain ⟨m, hn, hl⟩ := I.loc
  obtain ⟨u, r, l⟩ := hl i x v hN e hv
  have fin : EP X pins σ Q u s := ⟨v, H, I, r, h⟩
  rcases l with ⟨hk, hm⟩ | ⟨hk, c, hc, hcell⟩
  · exact wpAny_Name (wpAny_loadName_local I.ok.kind hk hn hm fin) hd
  · rcases hk with hk | hk
    · exact wpAny_Name (wpAny_loadName_cell I.ok.kind hk hc hcell fin) hd
    · exact wpAny_Name (wpAny_loadName_free I.ok.kind hk hc hcell fin hcd) hd
theorem pe_int {i j pos} : PE X (.Constant (.int i) j pos) (tC (.int i)) := fun _ _ _ H _ I h => wpAny_Constant_int ⟨.int i, H, I.tok _, ⟨_, rfl⟩, h⟩
theorem pe_bl {b j pos} : PE X (.Constant (.bool b) j pos) (tC (.bl b)) := fun _ _ _ H _ I h => Constant_bool ⟨.bl b, H, I, rfl, h⟩
def Gl (X : Cx) (x : Str) : Prop := X.env.kindOf x = some .globalImplicit
theorem ld_glob {E : Value → Shared → Prop} {pins : List (Addr × Obj)} {s : Shared} {σ : St} {H : Hp} {x : Str} {u : Value} {pos : Pos} {Q : Value → Shared → Prop} (I : Inv X pins σ H s) (hg : Gl X x) (hm : X.mg x = some u) (h : Q u s)
    (hd : (x == ("__debug__" : Str)) = false := by decide) : wpAny (model X.prog X.w) X.A (eval (.Name x pos) X.env) Q E s :=
  Calls.Name_function_global I.ok.kind hg (Calls.loadGlobal_global (by rw [I.ok.glob]; exact I.mod.glob.keeps I.bk) hm h) hd
theorem ld_blt {E : Value → Shared → Prop} {pins : List (Addr × Obj)} {s : Shared} {σ : St} {H : Hp} {x : Str} {u : Value} {pos : Pos} {Q : Value → Shared → Prop} (I : Inv X pins σ H s) (hg : Gl X x) (hm : X.mg x = none) (hv : bootBuiltins x = some u) (h : Q u s)
    (hn : x ≠ "__name__" := by decide) (hd : (x == ("__debug__" : Str)) = false := by decide) : wpAny (model X.prog X.w) X.A (eval (.Name x pos) X.env) Q E s := by
  obtain ⟨mb, h1, h2⟩ := I.mod.blt
  exact Calls.Name_function_global I.ok.kind hg (Calls.loadGlobal_builtin (by rw [I.ok.glob]; exact I.mod.glob.keeps I.bk) hm (by rw [I.ok.blt]; exact h1.keeps I.bk) ((h2 x hn).trans hv) h) hd
theorem pe_bltn {x : Str} {v : V} {u : Value} {pos : Pos} (hg : Gl X x) (hm : X.mg x = none) (hv : bootBuiltins x = some u) (r : RelV v u) (hn : x ≠ "__name__" := by decide) (hd : (x == ("__debug__" : Str)) = false := by decide) : PE X (.Name x pos) (tC v) :=
  fun _ _ _ H _ I h => ld_blt I hg hm hv ⟨v, H, I, r, h⟩ hn hd
def t2I (ta tb : TE) (k : Int → Int → Hp → Prop) : St → Hp → Prop := fun σ H => ta σ H fun x H1 => tb σ H1 fun y H2 => ∃ i j, x = .int i ∧ y = .int j ∧ k i j H2
variable {a b : Expr} {ta tb : TE} {pos : Pos}
theorem nobehind (b : Expr) {op : CmpOp} (h : op ≠ .In) (h2 : op ≠ .NotIn) : behindInMarks op b = false := by
  have e1 : (op == CmpOp.In) = false := by cases op <;> first | rfl | exact absurd rfl h
  have e2 : (op == CmpOp.NotIn) = false := by cases op <;> first | rfl | exact absurd rfl h2
  cases b <;> simp [behindInMarks, e1, e2]
def tCmp (p : Int → Int → Bool) (ta tb : TE) : TE := fun σ H Q => t2I ta tb (fun i j H2 => Q (.bl (p i j)) H2) σ H
abbrev tLt : TE → TE → TE := tCmp fun i j => decide (i < j)
abbrev tLe : TE → TE → TE := tCmp fun i j => decide (i ≤ j)
abbrev tGt : TE → TE → TE := tCmp fun i j => decide (j < i)
abbrev tGe : TE → TE → TE := tCmp fun i j => decide (j ≤ i)
abbrev tEqI : TE → TE → TE := tCmp fun i j => decide (i = j)
abbrev tNeI : TE → TE → TE := tCmp fun i j => !decide (i = j)
def tB (t : TE) : TT := fun σ H Q => t σ H fun x H1 => ∃ c, x = .bl c ∧ Q c H1
variable {tA tB' : TT} {rest : List Expr}
end
end L2
namespace L2
open PySem PySem.Spec PyProof.Rows
def SqL (K : PySem.W.Frag) (H : Hp) (a : Addr) (xs : List V) : Prop :=
  Rd H a (.lst xs) ∨
    ∃ (o : Obj) (its : Array Value) (n : Nat), K.lookup a = some o ∧ o.cls = .type "list" ∧ o.dict = none ∧ o.data = .seq its n ∧ its.size ≤ sizeLine ∧ Vals xs its.toList
def SqT (K : PySem.W.Frag) (H : Hp) (a : Addr) (xs : List V) : Prop :=
  Rd H a (.tup xs) ∨
    ∃ (o : Obj) (its : Array Value) (n : Nat), K.lookup a = some o ∧ o.cls = .type "tuple" ∧ o.data = .seq its n ∧ its.size ≤ sizeLine ∧ Vals xs its.toList
def absV : Value → Option V
  | .none => some .non
  | .bool b => some (.bl b)
  | .int i _ => some (.int i)
  | .str x _ => some (.str x)
  | .bytes b _ => some (.byt b)
  | .float b _ => some (.flt b)
  | .ref a => some (.ref a)
  | .type n => some (.ty n)
  | _ => none
theorem RelV.abs {x : V} {u : Value} (r : RelV x u) : absV u = some x := by
  cases x with
  | non => cases r; rfl
  | bl _ => cases r; rfl
  | int _ => obtain ⟨t, rfl⟩ := r; rfl
  | str _ => obtain ⟨t, rfl⟩ := r; rfl
  | byt _ => obtain ⟨t, rfl⟩ := r; rfl
  | flt _ => obtain ⟨t, rfl⟩ := r; rfl
  | ref _ => cases r; rfl
  | ty _ => cases r; rfl
theorem RelV.inj {x y : V} {u : Value} (r : RelV x u) (q : RelV y u) : x = y := Option.some.inj (r.abs.symm.trans q.abs)
theorem Vals.inj : ∀ {xs ys : List V} {us : List Value}, Vals xs us → Vals ys us → xs = ys
  | _, _, _, .nil, .nil => rfl
  | _, _, _, .cons r t, .cons r' t' => by rw [r.inj r', Vals.inj t t']
section
variable {X : Cx} {pins : List (Addr × Obj)} {σ : St} {H : Hp} {s : Shared} {a : Addr} {xs ys : List V}
theorem SqL.of {K : PySem.W.Frag} (h : H a = some (.lst xs)) : SqL K H a xs := .inl (.inl h)
theorem SqT.of {K : PySem.W.Frag} (h : H a = some (.tup xs)) : SqT K H a xs := .inl (.inl h)
theorem Inv.list (I : Inv X pins σ H s) (h : SqL X.K H a xs) : ∃ its : List Value, Vals xs its ∧ PlainL s.heap a its.toArray ∧ xs.length ≤ sizeLine := by
  rcases h with h | ⟨o, its, n, hk, hc, hd, hs, hz, r⟩
  · obtain ⟨z, its, n, r, e⟩ := h.ok I.hok
    exact ⟨its, r, ⟨_, n, e, rfl, rfl, rfl⟩, z⟩
  · refine ⟨its.toList, r, ⟨o, n, I.kIn a o hk, hc, hd, by simpa using hs⟩, ?_⟩
    have e := r.length
    simp only [Array.length_toList] at e
    omega
theorem Inv.tuple (I : Inv X pins σ H s) (h : SqT X.K H a xs) : ∃ its : List Value, Vals xs its ∧ IsTup s.heap a its.toArray ∧ xs.length ≤ sizeLine := by
  rcases h with h | ⟨o, its, n, hk, hc, hs, hz, r⟩
  · obtain ⟨z, its, r, p⟩ := h.ok I.hok
    exact ⟨its, r, p, z⟩
  · refine ⟨its.toList, r, ⟨o, I.kIn a o hk, hc, n, by simpa using hs⟩, ?_⟩
    have e := r.length
    simp only [Array.length_toList] at e
    omega
theorem Inv.list_inj (I : Inv X pins σ H s) (h : SqL X.K H a xs) (h' : SqL X.K H a ys) : xs = ys := by
  obtain ⟨its, r, ⟨o, n, e, _, _, d⟩, _⟩ := I.list h
  obtain ⟨its', r', ⟨o', n', e', _, _, d'⟩, _⟩ := I.list h'
  rw [e] at e'; cases e'
  rw [d] at d'
  injection d' with d1 _
  have : its = its' := by simpa using congrArg Array.toList d1
  subst this
  exact r.inj r'
theorem Inv.tuple_inj (I : Inv X pins σ H s) (h : SqT X.K H a xs) (h' : SqT X.K H a ys) : xs = ys := by
  obtain ⟨its, r, ⟨o, e, _, n, d⟩, _⟩ := I.tuple h
  obtain ⟨its', r', ⟨o', e', _, n', d'⟩, _⟩ := I.tuple h'
  rw [e] at e'; cases e'
  rw [d] at d'
  injection d' with d1 _
  have : its = its' := by simpa using congrArg Array.toList d1
  subst this
  exact r.inj r'
end
abbrev Cx.wish (X : Cx) (E : Value → Shared → Prop) : Cx := { X with xe := E }
abbrev Cx.nox (X : Cx) : Cx := X.wish fun _ _ => False
theorem Cx.Ok.wish {X : Cx} (ok : X.Ok) (E : Value → Shared → Prop) : (X.wish E).Ok :=
  ⟨ok.mod, ok.kind, ok.glob, ok.blt, ok.above, ok.inj, ok.has, ok.cab, ok.hd, ok.frames, ok.stk, ok.exf, ok.bs, ok.bsz, ok.noex, ok.exfs, ok.funs, ok.frf⟩
theorem Cx.Ok.unwish {X : Cx} {E : Value → Shared → Prop} (ok : (X.wish E).Ok) : X.Ok :=
  ⟨ok.mod, ok.kind, ok.glob, ok.blt, ok.above, ok.inj, ok.has, ok.cab, ok.hd, ok.frames, ok.stk, ok.exf, ok.bs, ok.bsz, ok.noex, ok.exfs, ok.funs, ok.frf⟩
section
variable {X : Cx} {pins : List (Addr × Obj)} {σ : St} {H : Hp} {s : Shared} {E : Value → Shared → Prop}
theorem Inv.wish (I : Inv X pins σ H s) (E : Value → Shared → Prop) : Inv (X.wish E) pins σ H s := ⟨I.ok.wish E, I.os, I.bare, I.base, I.loc, I.cell, I.free, I.freeC, I.pin, I.hok, I.len⟩
theorem Inv.unwish (I : Inv (X.wish E) pins σ H s) : Inv X pins σ H s := ⟨I.ok.unwish, I.os, I.bare, I.base, I.loc, I.cell, I.free, I.freeC, I.pin, I.hok, I.len⟩
theorem SP.unwish {D : Ends} {f : Flow} {s' : Shared} (h : SP (X.wish E) pins D f s') : SP X pins D f s' := by
  cases f with
  | next => obtain ⟨σ', H', I, q⟩ := h; exact ⟨σ', H', I.unwish, q⟩
  | brk => obtain ⟨σ', H', I, q⟩ := h; exact ⟨σ', H', I.unwish, q⟩
  | cont => obtain ⟨σ', H', I, q⟩ := h; exact ⟨σ', H', I.unwish, q⟩
  | ret u => obtain ⟨v, σ', H', I, r, q⟩ := h; exact ⟨v, σ', H', I.unwish, r, q⟩
theorem PSs.nox {st : List Stmt} {t : TS} (h : PSs X.nox st t) : PSs X st t := fun pins s σ H D I hw =>
  wpAny_mono (h pins s σ H D (I.wish _) hw) (fun _ _ q => q.unwish) fun _ _ z => False.elim z
end
section
variable {X : Cx} {st : Stmt} {rest : List Stmt} {t u : TS} {e : Expr} {te : TE} {pos : Pos}
theorem Inv.quiet {pins : List (Addr × Obj)} {σ : St} {H : Hp} {s : Shared} (I : Inv X pins σ H s) : interactive X.env = false := by simp [interactive, I.ok.kind]
def tDrop (te : TE) : TS := fun D σ H => te σ H fun _ H1 => D.nx σ H1
theorem ps_expr (he : PE X e te) (hs : swapsWith e none pos.line X.env = pure false := by rfl) : PS X (.Expr e pos) (tDrop te) := by
  intro pins s σ H D I h
  exact wpAny_Expr_any (thn (he pins s σ H _ I h) fun v s1 ⟨x, H1, I1, r1, q1⟩ => ⟨σ, H1, I1, q1⟩) I.quiet hs
end
abbrev TG := V → St → Hp → (St → Hp → Prop) → Prop
abbrev TGs := List V → St → Hp → (St → Hp → Prop) → Prop
def PG (X : Cx) (target : Expr) (t : TG) : Prop :=
  ∀ (pins : List (Addr × Obj)) (s : Shared) (σ : St) (H : Hp) (v : V) (u : Value) (Q : St → Hp → Prop), Inv X pins σ H s → RelV v u → t v σ H Q →
    wpAny (model X.prog X.w) X.A (assign target X.env u) (fun _ s' => ∃ σ' H', Inv X pins σ' H' s' ∧ Q σ' H') X.xe s
def PGs (X : Cx) (ts : List Expr) (t : TGs) : Prop :=
  ∀ (pins : List (Addr × Obj)) (s : Shared) (σ : St) (H : Hp) (vs : List V) (us : List Value) (Q : St → Hp → Prop), Inv X pins σ H s → Vals vs us → t vs σ H Q →
    wpAny (model X.prog X.w) X.A (assignInOrder ((assignEach ts X.env).map (·.2)) us) (fun _ s' => ∃ σ' H', Inv X pins σ' H' s' ∧ Q σ' H') X.xe s
abbrev TSet := V → V → V → Hp → (Hp → Prop) → Prop
abbrev TIp := V → V → Hp → VK → Prop
section
variable {X : Cx} {pos : Pos}
def gName (i : Nat) : TG := fun v σ H Q => Q (σ.set i (some v)) H
theorem pg_name {i : Nat} {x : Str} (hN : X.N.Nodup) (hi : X.N[i]? = some x) (hx : Loc X.env.scope x) (hf : X.fn x = true ∨ X.env.scope.names.lookup x = some .local := by first | exact .inl rfl | exact .inr rfl | assumption) : PG X (.Name x pos) (gName i) := by
  intro pins s σ H v u Q I r h
  exact wpAny_assign_Name (store_ok I hN hi hx r (fun s' I' => ⟨_, H, I', h⟩) hf)
def gNil : TGs := fun vs σ H Q => vs = [] ∧ Q σ H
def gCons (t : TG) (u : TGs) : TGs := fun vs σ H Q => ∃ v r, vs = v :: r ∧ t v σ H fun σ' H' => u r σ' H' Q
theorem pgs_nil : PGs X [] gNil := by
  intro pins s σ H vs us Q I r h
  obtain ⟨e, h⟩ := h
  subst e
  cases r
  exact assignInOrder_nil ⟨σ, H, I, h⟩
theorem pgs_cons {e : Expr} {es : List Expr} {t : TG} {u : TGs} (h1 : PG X e t) (h2 : PGs X es u)
    (hs : (assignEach (e :: es) X.env).map (·.2) = assign e X.env :: (assignEach es X.env).map (·.2) := by rfl) : PGs X (e :: es) (gCons t u) := by
  intro pins s σ H vs us Q I r h
  obtain ⟨v, vr, e1, h⟩ := h
  subst e1
  cases r with
  | cons r rr =>
    rw [hs]
    refine assignInOrder_cons (thn (h1 pins s σ H _ _ _ I r h) fun _ s1 ⟨σ1, H1, I1, q1⟩ => ?_)
    exact h2 pins s1 σ1 H1 _ _ Q I1 rr q1
def gTup (K : PySem.W.Frag) (n : Nat) (t : TGs) : TG := fun v σ H Q => ∃ a xs, v = .ref a ∧ SqT K H a xs ∧ xs.length = n ∧ t xs σ H Q
theorem pg_tup {es : List Expr} {k : Nat} {t : TGs} {n : Nat} (hc : X.calm = true) (h : PGs X es t)
    (hn : (assignEach es X.env).length = n := by rfl) (hst : (assignEach es X.env).findIdx? (·.1) = none := by rfl) : PG X (.Tuple es k pos) (gTup X.K n t) := by
  intro pins s σ H v u Q I r hw
  obtain ⟨a, xs, e1, hq, hl, hw⟩ := hw
  subst e1
  cases r
  obtain ⟨its, rv, ht, hz⟩ := I.tuple hq
  refine assign_Tuple_tuple (I.ok.hd hc) ht (by simp [hn, ← hl, rv.length]) hst fun h' hx => ?_
  have I1 : Inv X pins σ H { s with heap := h' } := I.kept (t' := s.toks) fun b o e => hx b o (Nat.ne_of_lt (Heap.lt_size e)) e
  exact h pins _ σ H xs _ Q I1 (by simpa using rv) hw
def tAsg (te : TE) (g : TG) : TS := fun D σ H => te σ H fun x H1 => g x σ H1 D.nx
theorem ps_set {i : Nat} {x : Str} {e : Expr} {te : TE} {pos' : Pos} (hN : X.N.Nodup) (hi : X.N[i]? = some x) (hx : Loc X.env.scope x) (he : PE X e te) (hs : swapsWith e (some (.Name x pos')) pos.line X.env = pure false := by rfl) (hf : X.fn x = true ∨ X.env.scope.names.lookup x = some .local := by first | exact .inl rfl | exact .inr rfl | assumption) :
    PS X (.Assign [.Name x pos'] e pos) (tAsg te (gName i)) := by
  intro pins s σ H D I h
  refine wpAny_Assign_Name (thn (he pins s σ H _ I h) fun v s1 ⟨y, H1, I1, r1, q1⟩ => ?_) hs
  exact store_ok I1 hN hi hx r1 (fun s2 I2 => ⟨_, H1, I2, q1⟩) hf
end
section
variable {X : Cx} {pos : Pos}
end
structure It where
  go : Nat → Hp → Prop
  yld : Nat → Hp → V → Hp → Prop
  stop : Nat → Hp → Prop
def FpOk (X : Cx) (pins : List (Addr × Obj)) (H : Hp) (b : Addr) : Prop :=
  H b = none ∧ b ≠ X.env.locals ∧ b ∉ X.fs ∧ (b ∈ X.ex ∨ X.s₀.heap.objs.size ≤ b) ∧ (∀ x c, X.env.cells.lookup x = some c → c ≠ b) ∧ ∀ p ∈ X.pn ++ pins, p.1 ≠ b
theorem Inv.fpOk {X : Cx} {pins : List (Addr × Obj)} {σ : St} {H H' : Hp} {s : Shared} {b : Addr} (I : Inv X pins σ H s) (hb : s.heap.objs.size ≤ b) (hn : H' b = none) : FpOk X pins H' b := by
  refine ⟨hn, Nat.ne_of_gt (Nat.lt_of_lt_of_le I.lt hb), I.nofs hb, .inr (Nat.le_trans I.sz hb), fun x c e z => ?_, fun p hp z => ?_⟩
  · obtain ⟨v, q⟩ := I.cell x c e
    exact absurd (Nat.lt_of_lt_of_le q.lt (by rw [z]; exact hb)) (Nat.lt_irrefl _)
  · exact absurd (Nat.lt_of_lt_of_le (Heap.lt_size (I.pin p hp).1) (by rw [z]; exact hb)) (Nat.lt_irrefl _)
structure Turn (P : Program) (w : World) (K : PySem.W.Frag) (tg : Expr) (J : It) (fp : List Addr) (it : Addr) (tn : Nat → Heap → Prop) : Prop where
  mem : it ∈ fp
  obj : ∀ i h, tn i h → ∀ b ∈ fp, ∃ o, h.get? b = some o ∧ ∀ v, o.data ≠ .cell v
  keep : ∀ i h h', tn i h → (∀ b ∈ fp, ∀ o, h.get? b = some o → h'.get? b = some o) → tn i h'
  item : ∀ (X : Cx), X.prog = P → X.w = w → X.K = K → X.calm = true → ∀ (i : Nat) (pins : List (Addr × Obj)) (s : Shared) (σ : St) (H : Hp) (E : Value → Shared → Prop), Inv X pins σ H s → (∀ b ∈ fp, FpOk X pins H b) → tn i s.heap → J.go i H →
    wpAny (model P w) X.A (pyNext (.ref it)) (fun r s1 => ∃ u, r = some u ∧
      wpAny (model P w) X.A (letOwnedTupleGo tg (.ref it) u) (fun _ s2 => ∃ x H', Inv X pins σ H' s2 ∧ RelV x u ∧ J.yld i H x H' ∧ tn (i + 1) s2.heap ∧ ∀ b ∈ fp, H' b = none) E s1) E s
  done : ∀ (X : Cx), X.prog = P → X.w = w → X.K = K → X.calm = true → ∀ (i : Nat) (pins : List (Addr × Obj)) (s : Shared) (σ : St) (H : Hp) (E : Value → Shared → Prop), Inv X pins σ H s → (∀ b ∈ fp, FpOk X pins H b) → tn i s.heap → J.stop i H →
    wpAny (model P w) X.A (pyNext (.ref it)) (fun r s1 => r = none ∧ Inv X pins σ H s1) E s
  self : ∀ (A : Around) (i : Nat) (s : Shared) (Q : Value → Shared → Prop) (E : Value → Shared → Prop), tn i s.heap → Q (.ref it) s → wpAny (model P w) A (pyIter (.ref it)) Q E s
abbrev TI := St → Hp → (It → Hp → Prop) → Prop
def PIE (X : Cx) (pins : List (Addr × Obj)) (σ : St) (tg : Expr) (R : It → Hp → Prop) (itv : Value) (s2 : Shared) : Prop :=
  ∃ (it : Addr) (fp : List Addr) (tn : Nat → Heap → Prop) (J : It) (H' : Hp), itv = .ref it ∧ Inv X pins σ H' s2 ∧ Turn X.prog X.w X.K tg J fp it tn ∧ tn 0 s2.heap ∧ (∀ b ∈ fp, FpOk X pins H' b) ∧ R J H'
def PI (X : Cx) (tg iter : Expr) (wi : TI) : Prop :=
  ∀ (pins : List (Addr × Obj)) (s : Shared) (σ : St) (H : Hp) (R : It → Hp → Prop), Inv X pins σ H s → wi σ H R →
    wpAny (model X.prog X.w) X.A (eval iter X.env) (fun v s1 => wpAny (model X.prog X.w) X.A (pyIter v) (PIE X pins σ tg R) X.xe s1) X.xe s
theorem go_of {M : Model} {A : Around} {E : Value → Shared → Prop} {s : Shared} {tg : Expr} {it : Addr} {u : Value} {o : Obj} {n : String} {vs : Array Value} {Q : Unit → Shared → Prop} (ho : s.heap.get? it = some o) (hc : o.cls = .type n) (hd : o.data = .fields vs)
    (hn : ["enumerate", "zip", "dict_itemiterator", "dict_reverseitemiterator", "odict_iterator", "itertools.zip_longest", "itertools.pairwise"].contains n = false) (hQ : Q () s) : wpAny M A (letOwnedTupleGo tg (.ref it) u) Q E s := by
  unfold letOwnedTupleGo
  cases tg <;> first
    | exact wpAny_pure hQ
    | (cases u <;> first
        | exact wpAny_pure hQ
        | (refine wpAny_bind (wpAny_load ho ?_)
           rw [hc, hd]
           show wpAny M A (if (["enumerate", "zip", "dict_itemiterator", "dict_reverseitemiterator", "odict_iterator", "itertools.zip_longest", "itertools.pairwise"].contains n && vs[0]? == some (rawInt _)) = true then _ else _) Q E s
           rw [if_neg (by intro h; rw [hn, Bool.false_and] at h; cases h)]
           exact wpAny_pure hQ))
def Itl (K : PySem.W.Frag) (a : Addr) : It :=
  ⟨fun i H => ∃ xs x, SqL K H a xs ∧ xs[i]? = some x, fun i H x H' => H' = H ∧ ∀ xs, SqL K H a xs → xs[i]? = some x, fun i H => ∃ xs, SqL K H a xs ∧ xs.length ≤ i⟩
def Itt (K : PySem.W.Frag) (a : Addr) : It :=
  ⟨fun i H => ∃ xs x, SqT K H a xs ∧ xs[i]? = some x, fun i H x H' => H' = H ∧ ∀ xs, SqT K H a xs → xs[i]? = some x, fun i H => ∃ xs, SqT K H a xs ∧ xs.length ≤ i⟩
def Itr (lo : Int) (n : Nat) : It := ⟨fun i _ => i < n, fun i H x H' => H' = H ∧ x = .int (lo + i), fun i _ => n ≤ i⟩
theorem turn_list {P : Program} {w : World} {K : PySem.W.Frag} {tg : Expr} (a it : Addr) : Turn P w K tg (Itl K a) [it] it (fun i h => h.IsListIter it a i) where
  mem := by simp
  obj := fun i h st b hb => by
    have e : b = it := by simpa using hb
    subst e
    obtain ⟨o, e, c, d⟩ := st
    exact ⟨o, e, fun v z => by rw [d] at z; cases z⟩
  keep := fun i h h' st k => st.at fun o e => k it (by simp) o e
  item := by
    intro X hP hw hK hc i pins s σ H E I hf st hg
    subst hP hw hK
    obtain ⟨xs, x, hq, hx⟩ := hg
    obtain ⟨its, rv, p, hz⟩ := I.list hq
    obtain ⟨u, hu, ru⟩ := rv.get hx
    obtain ⟨f0, f1, f2, f3, f4, f5⟩ := hf it (by simp)
    refine wpAny_pyNext_list_item st p.isList (x := u) (by simpa using hu) fun h' st' sb => ?_
    have I1 : Inv X pins σ H { s with heap := h' } := I.turned (t' := s.toks) (fun b o hb e => (sb.2 b hb).trans e) f0 f1 f3 f4 f5
    obtain ⟨o, e, c, d⟩ := id st'
    exact ⟨u, rfl, go_of (s := { s with heap := h' }) e c d (by decide) ⟨x, H, I1, ru, ⟨rfl, fun ys hy => by rw [I.list_inj hy hq]; exact hx⟩, st', fun b hb => (hf b hb).1⟩⟩
  done := by
    intro X hP hw hK hc i pins s σ H E I hf st hg
    subst hP hw hK
    obtain ⟨xs, hq, hx⟩ := hg
    obtain ⟨its, rv, p, hz⟩ := I.list hq
    obtain ⟨f0, f1, f2, f3, f4, f5⟩ := hf it (by simp)
    have hl := rv.length
    exact wpAny_pyNext_list_end (I.ok.hd hc) st p.isList (by simp; omega) fun h' eb => ⟨rfl, I.turned (t' := s.toks) (fun b o hb e => eb b o hb e) f0 f1 f3 f4 f5⟩
  self := fun _ _ _ _ _ st h => wpAny_pyIter_listiter st h
theorem turn_tuple {P : Program} {w : World} {K : PySem.W.Frag} {tg : Expr} (a it : Addr) : Turn P w K tg (Itt K a) [it] it (fun i h => h.IsTupleIter it a i) where
  mem := by simp
  obj := fun i h st b hb => by
    have e : b = it := by simpa using hb
    subst e
    obtain ⟨o, e, c, d⟩ := st
    exact ⟨o, e, fun v z => by rw [d] at z; cases z⟩
  keep := fun i h h' st k => st.at fun o e => k it (by simp) o e
  item := by
    intro X hP hw hK hc i pins s σ H E I hf st hg
    subst hP hw hK
    obtain ⟨xs, x, hq, hx⟩ := hg
    obtain ⟨its, rv, p, hz⟩ := I.tuple hq
    obtain ⟨u, hu, ru⟩ := rv.get hx
    obtain ⟨f0, f1, f2, f3, f4, f5⟩ := hf it (by simp)
    refine wpAny_pyNext_tuple_item st (show s.heap.IsTuple a its.toArray from p) (x := u) (by simpa using hu) fun h' st' sb => ?_
    have I1 : Inv X pins σ H { s with heap := h' } := I.turned (t' := s.toks) (fun b o hb e => (sb.2 b hb).trans e) f0 f1 f3 f4 f5
    obtain ⟨o, e, c, d⟩ := id st'
    exact ⟨u, rfl, go_of (s := { s with heap := h' }) e c d (by decide) ⟨x, H, I1, ru, ⟨rfl, fun ys hy => by rw [I.tuple_inj hy hq]; exact hx⟩, st', fun b hb => (hf b hb).1⟩⟩
  done := by
    intro X hP hw hK hc i pins s σ H E I hf st hg
    subst hP hw hK
    obtain ⟨xs, hq, hx⟩ := hg
    obtain ⟨its, rv, p, hz⟩ := I.tuple hq
    obtain ⟨f0, f1, f2, f3, f4, f5⟩ := hf it (by simp)
    have hl := rv.length
    exact wpAny_pyNext_tuple_end (I.ok.hd hc) st (show s.heap.IsTuple a its.toArray from p) (by simp; omega) fun h' eb => ⟨rfl, I.turned (t' := s.toks) (fun b o hb e => eb b o hb e) f0 f1 f3 f4 f5⟩
  self := fun _ _ _ _ _ st h => wpAny_pyIter_tupleiter st h
theorem turn_range {P : Program} {w : World} {K : PySem.W.Frag} {tg : Expr} (it : Addr) (lo : Int) (n : Nat) : Turn P w K tg (Itr lo n) [it] it (fun i h => IsRangeIter h it (lo + (i : Nat) * 1) ((n : Int) - (i : Nat)) 1) where
  mem := by simp
  obj := fun i h st b hb => by
    have e : b = it := by simpa using hb
    subst e
    exact ⟨_, st, fun v z => by
      have z' : Data.fields _ = Data.cell v := z
      cases z'⟩
  keep := fun i h h' st k => k it (by simp) _ st
  item := by
    intro X hP hw hK hc i pins s σ H E I hf st hg
    subst hP hw hK
    obtain ⟨f0, f1, f2, f3, f4, f5⟩ := hf it (by simp)
    have W := Walks.range (prog := X.prog) (w := X.w) (I.ok.hd hc) it lo 1 n
    refine W.item i s _ _ hg st fun v h' tk hv st' kk => ?_
    obtain ⟨t, rfl⟩ := hv
    have I1 : Inv X pins σ H { s with heap := h', toks := tk } := I.turned (fun b o hb e => kk b o (by simpa using hb) e) f0 f1 f3 f4 f5
    refine ⟨_, rfl, go_of (s := { s with heap := h', toks := tk }) (n := "range_iterator") st' rfl rfl (by decide) ⟨.int (lo + i), H, I1, ⟨t, ?_⟩, ⟨rfl, rfl⟩, st', fun b hb => (hf b hb).1⟩⟩
    rw [Int.mul_one]
  done := by
    intro X hP hw hK hc i pins s σ H E I hf st hg
    subst hP hw hK
    obtain ⟨f0, f1, f2, f3, f4, f5⟩ := hf it (by simp)
    exact wpAny_pyNext_range_end (I.ok.hd hc) st (by have : n ≤ i := hg; omega) fun h' eb => ⟨rfl, I.turned (t' := s.toks) (fun b o hb e => eb b o hb e) f0 f1 f3 f4 f5⟩
  self := fun _ _ _ _ _ st h => wpAny_pyIter_rangeiter st h
end L2
namespace L2
open PySem PySem.Spec PyProof.Rows
section
variable {X : Cx} {tg : Expr}
def iList (K : PySem.W.Frag) (tl : TE) : TI := fun σ H R => tl σ H fun x H1 => ∃ a, x = .ref a ∧ (∃ xs, SqL K H1 a xs) ∧ R (Itl K a) H1
def iTup (K : PySem.W.Frag) (tl : TE) : TI := fun σ H R => tl σ H fun x H1 => ∃ a, x = .ref a ∧ (∃ xs, SqT K H1 a xs) ∧ R (Itt K a) H1
theorem pi_list {l : Expr} {tl : TE} (hl : PE X l tl) : PI X tg l (iList X.K tl) := by
  intro pins s σ H R I h
  refine thn (hl pins s σ H _ I h) fun v s1 ⟨x, H1, I1, r1, q1⟩ => ?_
  obtain ⟨a, e, ⟨xs, hq⟩, q⟩ := q1
  subst e
  cases r1
  obtain ⟨its, rv, p, hz⟩ := I1.list hq
  refine wpAny_pyIter_list p.isList ?_
  refine ⟨s1.heap.objs.size, [s1.heap.objs.size], _, _, H1, rfl, I1.kept (t' := s1.toks) fun b o e => Heap.get?_push_of_some _ e, turn_list a _, ⟨_, Heap.get?_push_size _ rfl, rfl, rfl⟩, fun b hb => ?_, q⟩
  have e : b = s1.heap.objs.size := by simpa using hb
  subst e
  exact I1.fpOk (Nat.le_refl _) (I1.hok.fresh (Nat.le_refl _))
theorem pi_tup {l : Expr} {tl : TE} (hl : PE X l tl) : PI X tg l (iTup X.K tl) := by
  intro pins s σ H R I h
  refine thn (hl pins s σ H _ I h) fun v s1 ⟨x, H1, I1, r1, q1⟩ => ?_
  obtain ⟨a, e, ⟨xs, hq⟩, q⟩ := q1
  subst e
  cases r1
  obtain ⟨its, rv, p, hz⟩ := I1.tuple hq
  refine wpAny_pyIter_tuple (show s1.heap.IsTuple a its.toArray from p) ?_
  refine ⟨s1.heap.objs.size, [s1.heap.objs.size], _, _, H1, rfl, I1.kept (t' := s1.toks) fun b o e => Heap.get?_push_of_some _ e, turn_tuple a _, ⟨_, Heap.get?_push_size _ rfl, rfl, rfl⟩, fun b hb => ?_, q⟩
  have e : b = s1.heap.objs.size := by simpa using hb
  subst e
  exact I1.fpOk (Nat.le_refl _) (I1.hok.fresh (Nat.le_refl _))
theorem range_it {pins : List (Addr × Obj)} {σ : St} {H : Hp} {s : Shared} {R : It → Hp → Prop} {E : Value → Shared → Prop} {lo hi : Int} {t u v : Tok} {tk : Nat} (I : Inv X pins σ H s) (h1 : -(2 ^ 62) ≤ lo) (h2 : lo < 2 ^ 62) (h3 : -(2 ^ 62) ≤ hi) (h4 : hi < 2 ^ 62)
    (q : R (Itr lo (hi - lo).toNat) H) : wpAny (model X.prog X.w) X.A (pyIter (.ref s.heap.objs.size)) (PIE X pins σ tg R) E { s with heap := s.heap.push { cls := .type "range", data := .fields #[.int lo t, .int hi u, .int 1 v] }, toks := tk } := by
  refine wpAny_pyIter_range (IsRange.new ..) (small_one h1 h2 h3 h4) ?_
  have I1 : Inv X pins σ H { s with heap := s.heap.push { cls := .type "range", data := .fields #[.int lo t, .int hi u, .int 1 v] }, toks := tk } := I.kept fun b o e => Heap.get?_push_of_some _ e
  refine ⟨(s.heap.push { cls := .type "range", data := .fields #[.int lo t, .int hi u, .int 1 v] }).objs.size, [(s.heap.push { cls := .type "range", data := .fields #[.int lo t, .int hi u, .int 1 v] }).objs.size], _, _, H, rfl,
    I1.kept (t' := tk) fun b o e => Heap.get?_push_of_some _ e, turn_range _ lo (hi - lo).toNat, ?_, fun b hb => ?_, q⟩
  · have e1 : lo + ((0 : Nat) : Int) * 1 = lo := by simp
    have e2 : (((hi - lo).toNat : Nat) : Int) - ((0 : Nat) : Int) = Builtin.Range.rangeSize lo hi 1 := by rw [rangeSize_one]; split <;> omega
    show IsRangeIter _ _ (lo + ((0 : Nat) : Int) * 1) ((((hi - lo).toNat : Nat) : Int) - ((0 : Nat) : Int)) 1
    rw [e1, e2]
    exact Heap.get?_push_size _ rfl
  · have e : b = (s.heap.push { cls := .type "range", data := .fields #[.int lo t, .int hi u, .int 1 v] }).objs.size := by simpa using hb
    subst e
    exact I1.fpOk (Nat.le_refl _) (I1.hok.fresh (Nat.le_refl _))
def iRng1 (ta : TA) : TI := fun σ H R => ta σ H fun vs H1 => ∃ j : Int, vs = [.int j] ∧ -(2 ^ 62) ≤ j ∧ j < 2 ^ 62 ∧ R (Itr 0 j.toNat) H1
theorem pi_range1 {a : Expr} {ta : TA} {p pos : Pos} (hg : Gl X "range") (hm : X.mg "range" = none) (ha : PA X [a] ta) (hs : starEach [a] X.env = [(false, eval a X.env)] := by rfl) : PI X tg (.Call (.Name "range" p) [a] [] pos) (iRng1 ta) := by
  intro pins s σ H R I h
  refine Call_ (ld_blt I hg hm boot_range (PyProof.Rows.callWith_type1 (thn (ha pos pins s σ H _ I h) fun us s1 ⟨vs, H1, I1, r1, q1⟩ => ?_) hs rfl))
  obtain ⟨j, e, q1, q2, q⟩ := q1
  subst e
  cases r1 with
  | cons r rr =>
    cases rr
    obtain ⟨t, rfl⟩ := r
    exact call_range_1 (range_it I1 (by omega) (by omega) q1 q2 (by simpa using q))
def pinsAt (fp : List Addr) (h : Heap) : List (Addr × Obj) := fp.filterMap fun b => (h.get? b).map fun o => (b, o)
theorem mem_pinsAt {fp : List Addr} {h : Heap} {b : Addr} {o : Obj} (hb : b ∈ fp) (e : h.get? b = some o) : (b, o) ∈ pinsAt fp h := List.mem_filterMap.mpr ⟨b, hb, by rw [e]; rfl⟩
theorem of_pinsAt {fp : List Addr} {h : Heap} {p : Addr × Obj} (hp : p ∈ pinsAt fp h) : p.1 ∈ fp ∧ h.get? p.1 = some p.2 := by
  obtain ⟨b, hb, e⟩ := List.mem_filterMap.mp hp
  cases q : h.get? b with
  | none => rw [q] at e; cases e
  | some o =>
    rw [q] at e
    have e' : (b, o) = p := Option.some.inj e
    subst e'
    exact ⟨hb, q⟩
theorem Inv.pinned {pins : List (Addr × Obj)} {σ : St} {H : Hp} {s : Shared} {fp : List Addr} (I : Inv X pins σ H s) (hf : ∀ b ∈ fp, FpOk X pins H b) (ho : ∀ b ∈ fp, ∃ o, s.heap.get? b = some o ∧ ∀ v, o.data ≠ .cell v) : Inv X (pins ++ pinsAt fp s.heap) σ H s :=
  I.pins_of fun p hp => (List.mem_append.mp hp).elim (fun z => I.pin p (List.mem_append_right _ z)) fun z => by
    obtain ⟨hb, e⟩ := of_pinsAt z
    obtain ⟨f0, f1, f2, _⟩ := hf p.1 hb
    obtain ⟨o, e', d⟩ := ho p.1 hb
    rw [e] at e'; cases e'
    exact ⟨e, f0, f1, f2, d⟩
theorem Inv.unpinned {pins pl : List (Addr × Obj)} {σ : St} {H : Hp} {s : Shared} (I : Inv X (pins ++ pl) σ H s) : Inv X pins σ H s := I.pins_of fun p hp => I.pin p (List.mem_append_right _ (List.mem_append_left _ hp))
end
end L2
namespace L2
open PySem PySem.Spec PyProof.Rows
abbrev R2 := V → V → Hp → VK → Prop
def OpR (X : Cx) (f : Value → Value → Sem Value) (r : R2) : Prop :=
  ∀ (pins : List (Addr × Obj)) (s : Shared) (σ : St) (H : Hp) (x y : V) (v u : Value) (Q : VK), Inv X pins σ H s → RelV x v → RelV y u → r x y H Q →
    wpAny (model X.prog X.w) X.A (f v u) (EP X pins σ Q) X.xe s
def UnR (X : Cx) (f : Value → Sem Value) (r : V → Hp → VK → Prop) : Prop :=
  ∀ (pins : List (Addr × Obj)) (s : Shared) (σ : St) (H : Hp) (x : V) (v : Value) (Q : VK), Inv X pins σ H s → RelV x v → r x H Q →
    wpAny (model X.prog X.w) X.A (f v) (EP X pins σ Q) X.xe s
def CallR (X : Cx) (f : Value) (r : List V → Hp → VK → Prop) : Prop :=
  ∀ (pins : List (Addr × Obj)) (s : Shared) (σ : St) (H : Hp) (xs : List V) (us : List Value) (Q : VK), Inv X pins σ H s → Vals xs us → r xs H Q →
    wpAny (model X.prog X.w) X.A (call f us) (EP X pins σ Q) X.xe s
def TruR (X : Cx) (r : V → Hp → (Bool → Hp → Prop) → Prop) : Prop :=
  ∀ (pins : List (Addr × Obj)) (s : Shared) (σ : St) (H : Hp) (x : V) (v : Value) (Q : Bool → Hp → Prop), Inv X pins σ H s → RelV x v → r x H Q →
    wpAny (model X.prog X.w) X.A (truthy v) (TP X pins σ Q) X.xe s
def tOp (r : R2) (ta tb : TE) : TE := fun σ H Q => ta σ H fun x H1 => tb σ H1 fun y H2 => r x y H2 Q
def tUn (r : V → Hp → VK → Prop) (ta : TE) : TE := fun σ H Q => ta σ H fun x H1 => r x H1 Q
def rI (C : Int → Int → Prop) (g : Int → Int → V) : R2 := fun x y H Q => ∃ i j, x = .int i ∧ y = .int j ∧ C i j ∧ Q (g i j) H
def rI0 (g : Int → Int → V) : R2 := fun x y H Q => ∃ i j, x = .int i ∧ y = .int j ∧ Q (g i j) H
def rU (g : Int → V) : V → Hp → VK → Prop := fun x H Q => ∃ i, x = .int i ∧ Q (g i) H
section
variable {X : Cx} {a b c : Expr} {ta tb tc : TE} {pos : Pos}
theorem binT (ha : PE X a ta) (hb : PE X b tb) {pins : List (Addr × Obj)} {s : Shared} {σ : St} {H : Hp} {R : V → V → Hp → Prop} (I : Inv X pins σ H s)
    (h : ta σ H fun x H1 => tb σ H1 fun y H2 => R x y H2) {Q : Value → Shared → Prop} {f : Value → Value → Sem Value}
    (hf : ∀ v u s2 x y H2, Inv X pins σ H2 s2 → RelV x v → RelV y u → R x y H2 → wpAny (model X.prog X.w) X.A (f v u) Q X.xe s2) :
    wpAny (model X.prog X.w) X.A (eval a X.env) (fun v s₁ => wpAny (model X.prog X.w) X.A (eval b X.env) (fun u s₂ => wpAny (model X.prog X.w) X.A (f v u) Q X.xe s₂) X.xe s₁) X.xe s := by
  refine thn (ha pins s σ H _ I h) fun v s1 ⟨x, H1, I1, r1, q1⟩ => ?_
  refine thn (hb pins s1 σ H1 _ I1 q1) fun u s2 ⟨y, H2, I2, r2, q2⟩ => ?_
  exact hf v u s2 x y H2 I2 r1 r2 q2
theorem pe_op {op : Operator} {r : R2} (ho : OpR X (binaryOp op) r) (ha : PE X a ta) (hb : PE X b tb) : PE X (.BinOp a op b pos) (tOp r ta tb) := by
  intro pins s σ H Q I h
  exact wpAny_BinOp (binT ha hb I h fun v u s2 x y H2 I2 rx ry q => ho pins s2 σ H2 x y v u Q I2 rx ry q)
theorem pe_un {op : UnaryOp} {r : V → Hp → VK → Prop} (ho : UnR X (unaryOp op) r) (ha : PE X a ta) : PE X (.UnaryOp op a pos) (tUn r ta) := by
  intro pins s σ H Q I h
  exact UnaryOp_ (thn (ha pins s σ H _ I h) fun v s1 ⟨x, H1, I1, r1, q1⟩ => ho pins s1 σ H1 x v Q I1 r1 q1)
theorem opI {f : Value → Value → Sem Value} {C : Int → Int → Prop} {g : Int → Int → Int}
    (rule : ∀ (i j : Int) (t u : Tok) (s : Shared) (Q : Value → Shared → Prop) (E : Value → Shared → Prop), C i j → Q (.int (g i j) s.toks) { s with toks := s.toks + 1 } → wpAny (model X.prog X.w) X.A (f (.int i t) (.int j u)) Q E s) :
    OpR X f (rI C fun i j => .int (g i j)) := by
  intro pins s σ H x y v u Q I rx ry h
  obtain ⟨i, j, rfl, rfl, hc, q⟩ := h
  obtain ⟨t, rfl⟩ := rx
  obtain ⟨t', rfl⟩ := ry
  exact rule i j t t' s _ _ hc ⟨.int (g i j), H, I.tok _, ⟨_, rfl⟩, q⟩
theorem opI0 {f : Value → Value → Sem Value} {g : Int → Int → Int}
    (rule : ∀ (i j : Int) (t u : Tok) (s : Shared) (Q : Value → Shared → Prop) (E : Value → Shared → Prop), Q (.int (g i j) s.toks) { s with toks := s.toks + 1 } → wpAny (model X.prog X.w) X.A (f (.int i t) (.int j u)) Q E s) :
    OpR X f (rI0 fun i j => .int (g i j)) := by
  intro pins s σ H x y v u Q I rx ry h
  obtain ⟨i, j, rfl, rfl, q⟩ := h
  obtain ⟨t, rfl⟩ := rx
  obtain ⟨t', rfl⟩ := ry
  exact rule i j t t' s _ _ ⟨.int (g i j), H, I.tok _, ⟨_, rfl⟩, q⟩
theorem opB0 {f : Value → Value → Sem Value} {g : Int → Int → Bool}
    (rule : ∀ (i j : Int) (t u : Tok) (s : Shared) (Q : Value → Shared → Prop) (E : Value → Shared → Prop), Q (.bool (g i j)) s → wpAny (model X.prog X.w) X.A (f (.int i t) (.int j u)) Q E s) :
    OpR X f (rI0 fun i j => .bl (g i j)) := by
  intro pins s σ H x y v u Q I rx ry h
  obtain ⟨i, j, rfl, rfl, q⟩ := h
  obtain ⟨t, rfl⟩ := rx
  obtain ⟨t', rfl⟩ := ry
  exact rule i j t t' s _ _ ⟨.bl (g i j), H, I, rfl, q⟩
def CDiv (i j : Int) : Prop := 0 < j ∧ j < 1073741824
def CMul (i j : Int) : Prop := (-(2 ^ 64) < i ∧ i < 2 ^ 64) ∨ (-(2 ^ 64) < j ∧ j < 2 ^ 64)
theorem CMul.ok {i j : Int} (h : CMul i j) : IntMulOk i j := by
  rcases h with ⟨h1, h2⟩ | ⟨h1, h2⟩
  · exact .of_left (intBits_le_64 h1 h2)
  · exact .of_right (intBits_le_64 h1 h2)
theorem op_add : OpR X (binaryOp .Add) (rI0 fun i j => .int (i + j)) := opI0 fun _ _ _ _ _ _ _ q => add_int q
theorem op_sub : OpR X (binaryOp .Sub) (rI0 fun i j => .int (i - j)) := opI0 fun _ _ _ _ _ _ _ q => sub_int q
theorem op_mul : OpR X (binaryOp .Mult) (rI CMul fun i j => .int (i * j)) := opI fun _ _ _ _ _ _ _ hc q => mul_int q hc.ok
theorem op_fdiv : OpR X (binaryOp .FloorDiv) (rI CDiv fun i j => .int (i / j)) := opI fun i j _ _ _ _ _ hc q => by
  have h1 : (0 : Int) < j := hc.1
  have h2 : j < 1073741824 := hc.2
  exact floordiv_int (by omega) (by rw [Int.fdiv_eq_ediv_of_nonneg i (by omega)]; exact q) (.inl (PyProof.noPylong_small (by omega)))
theorem op_mod : OpR X (binaryOp .Mod) (rI (fun _ j => 0 < j) fun i j => .int (i % j)) := opI fun i j _ _ _ _ _ hc q => by
  have h1 : (0 : Int) < j := hc
  exact mod_int' (by omega) (by rw [Int.fmod_eq_emod_of_nonneg i (by omega)]; exact q)
theorem unI {f : Value → Sem Value} {g : Int → Int}
    (rule : ∀ (i : Int) (t : Tok) (s : Shared) (Q : Value → Shared → Prop) (E : Value → Shared → Prop), Q (.int (g i) s.toks) { s with toks := s.toks + 1 } → wpAny (model X.prog X.w) X.A (f (.int i t)) Q E s) :
    UnR X f (rU fun i => .int (g i)) := by
  intro pins s σ H x v Q I rx h
  obtain ⟨i, rfl, q⟩ := h
  obtain ⟨t, rfl⟩ := rx
  exact rule i t s _ _ ⟨.int (g i), H, I.tok _, ⟨_, rfl⟩, q⟩
theorem un_neg : UnR X (unaryOp .USub) (rU fun i => .int (-i)) := unI fun _ _ _ _ _ q => neg_int q
end
def scal : V → V → Bool
  | .non, .non => true | .non, .int _ => true | .int _, .non => true | .non, .bl _ => true | .bl _, .non => true | .non, .str _ => true | .str _, .non => true
  | .int _, .int _ => true | .bl _, .bl _ => true | .str _, .str _ => true | .byt _, .byt _ => true
  | .int _, .str _ => true | .str _, .int _ => true | .bl _, .str _ => true | .str _, .bl _ => true
  | _, _ => false
def rEq : R2 := fun x y H Q => scal x y = true ∧ Q (.bl (decide (x = y))) H
def rNe : R2 := fun x y H Q => scal x y = true ∧ Q (.bl (!decide (x = y))) H
theorem dec_int {i j : Int} : decide (V.int i = V.int j) = (i == j) := by
  rw [Bool.eq_iff_iff]
  simp
theorem dec_bl {i j : Bool} : decide (V.bl i = V.bl j) = (i == j) := by
  rw [Bool.eq_iff_iff]
  simp
theorem dec_str {i j : Str} : decide (V.str i = V.str j) = (i == j) := by
  rw [Bool.eq_iff_iff]
  simp
theorem dec_byt {i j : Array UInt8} : decide (V.byt i = V.byt j) = (i.toList == j.toList) := by
  rw [Bool.eq_iff_iff]
  cases i
  cases j
  simp
section
variable {X : Cx} {a b c : Expr} {ta tb tc : TE} {pos : Pos}
theorem fin_bl {pins : List (Addr × Obj)} {σ : St} {H : Hp} {s : Shared} {Q : VK} {k k' : Bool} (I : Inv X pins σ H s) (q : Q (.bl k) H) (e : k = k') : EP X pins σ Q (.bool k') s := by
  subst e
  exact ⟨.bl k, H, I, rfl, q⟩
theorem op_eq : OpR X (compareOp .Eq) rEq := by
  intro pins s σ H x y v u Q I rx ry h
  obtain ⟨hs, q⟩ := h
  cases x with
  | non =>
    cases rx
    cases y with
    | non => cases ry; exact PySem.EqNone.eq_none_none (fin_bl I q (by simp))
    | bl j => cases ry; exact PySem.EqNone.eq_none_bool (fin_bl I q (by simp))
    | int j => obtain ⟨t', rfl⟩ := ry; exact PySem.EqNone.eq_none_int (fin_bl I q (by simp))
    | str j => obtain ⟨t', rfl⟩ := ry; exact PySem.EqNone.eq_none_str (fin_bl I q (by simp))
    | _ => exact absurd (show false = true from hs) Bool.false_ne_true
  | bl i =>
    cases rx
    cases y with
    | non => cases ry; exact PySem.EqNone.eq_bool_none (fin_bl I q (by simp))
    | bl j => cases ry; exact eq_bool (fin_bl I q dec_bl)
    | str j => obtain ⟨t', rfl⟩ := ry; exact PySem.EqMixed.eq_bool_str (fin_bl I q (by simp))
    | _ => exact absurd (show false = true from hs) Bool.false_ne_true
  | int i =>
    obtain ⟨t, rfl⟩ := rx
    cases y with
    | non => cases ry; exact PySem.EqNone.eq_int_none (fin_bl I q (by simp))
    | int j => obtain ⟨t', rfl⟩ := ry; exact eq_int (fin_bl I q dec_int)
    | str j => obtain ⟨t', rfl⟩ := ry; exact PySem.EqMixed.eq_int_str (fin_bl I q (by simp))
    | _ => exact absurd (show false = true from hs) Bool.false_ne_true
  | str i =>
    obtain ⟨t, rfl⟩ := rx
    cases y with
    | non => cases ry; exact PySem.EqNone.eq_str_none (fin_bl I q (by simp))
    | bl j => cases ry; exact PySem.EqMixed.eq_str_bool (fin_bl I q (by simp))
    | int j => obtain ⟨t', rfl⟩ := ry; exact PySem.EqMixed.eq_str_int (fin_bl I q (by simp))
    | str j => obtain ⟨t', rfl⟩ := ry; exact eq_str (fin_bl I q dec_str)
    | _ => exact absurd (show false = true from hs) Bool.false_ne_true
  | byt i =>
    obtain ⟨t, rfl⟩ := rx
    cases y with
    | byt j => obtain ⟨t', rfl⟩ := ry; exact PySem.W.eq_bytes (fin_bl I q dec_byt)
    | _ => exact absurd (show false = true from hs) Bool.false_ne_true
  | _ => cases y <;> exact absurd (show false = true from hs) Bool.false_ne_true
theorem op_ne : OpR X (compareOp .NotEq) rNe := by
  intro pins s σ H x y v u Q I rx ry h
  obtain ⟨hs, q⟩ := h
  cases x with
  | non =>
    cases rx
    cases y with
    | non => cases ry; exact PySem.EqNone.ne_none_none (fin_bl I q (by simp))
    | bl j => cases ry; exact PySem.EqNone.ne_none_bool (fin_bl I q (by simp))
    | int j => obtain ⟨t', rfl⟩ := ry; exact PySem.EqNone.ne_none_int (fin_bl I q (by simp))
    | str j => obtain ⟨t', rfl⟩ := ry; exact PySem.EqNone.ne_none_str (fin_bl I q (by simp))
    | _ => exact absurd (show false = true from hs) Bool.false_ne_true
  | bl i =>
    cases rx
    cases y with
    | non => cases ry; exact PySem.EqNone.ne_bool_none (fin_bl I q (by simp))
    | bl j => cases ry; exact ne_bool (fin_bl I q (congrArg not dec_bl))
    | str j => obtain ⟨t', rfl⟩ := ry; exact PySem.EqMixed.ne_bool_str (fin_bl I q (by simp))
    | _ => exact absurd (show false = true from hs) Bool.false_ne_true
  | int i =>
    obtain ⟨t, rfl⟩ := rx
    cases y with
    | non => cases ry; exact PySem.EqNone.ne_int_none (fin_bl I q (by simp))
    | int j => obtain ⟨t', rfl⟩ := ry; exact ne_int (fin_bl I q (congrArg not dec_int))
    | str j => obtain ⟨t', rfl⟩ := ry; exact PySem.EqMixed.ne_int_str (fin_bl I q (by simp))
    | _ => exact absurd (show false = true from hs) Bool.false_ne_true
  | str i =>
    obtain ⟨t, rfl⟩ := rx
    cases y with
    | non => cases ry; exact PySem.EqNone.ne_str_none (fin_bl I q (by simp))
    | bl j => cases ry; exact PySem.EqMixed.ne_str_bool (fin_bl I q (by simp))
    | int j => obtain ⟨t', rfl⟩ := ry; exact PySem.EqMixed.ne_str_int (fin_bl I q (by simp))
    | str j => obtain ⟨t', rfl⟩ := ry; exact ne_str (fin_bl I q (congrArg not dec_str))
    | _ => exact absurd (show false = true from hs) Bool.false_ne_true
  | byt i =>
    obtain ⟨t, rfl⟩ := rx
    cases y with
    | byt j => obtain ⟨t', rfl⟩ := ry; exact PySem.W.ne_bytes (fin_bl I q (congrArg not dec_byt))
    | _ => exact absurd (show false = true from hs) Bool.false_ne_true
  | _ => cases y <;> exact absurd (show false = true from hs) Bool.false_ne_true
theorem op_lt : OpR X (compareOp .Lt) (rI0 fun i j => .bl (decide (i < j))) := opB0 fun _ _ _ _ _ _ _ q => lt_int q
theorem op_gt : OpR X (compareOp .Gt) (rI0 fun i j => .bl (decide (j < i))) := opB0 fun _ _ _ _ _ _ _ q => gt_int q
theorem OpR.or {f : Value → Value → Sem Value} {r r' : R2} (h : OpR X f r) (h' : OpR X f r') : OpR X f (fun x y H Q => r x y H Q ∨ r' x y H Q) := by
  intro pins s σ H x y v u Q I rx ry q
  rcases q with q | q
  · exact h pins s σ H x y v u Q I rx ry q
  · exact h' pins s σ H x y v u Q I rx ry q
def TruV (K : PySem.W.Frag) (x : V) (H : Hp) (k : Bool) : Prop :=
  match x with
  | .non => k = false
  | .bl b => k = b
  | .int i => k = (i != 0)
  | .str y => y.length ≤ sizeLine ∧ k = ((y.length : Int) != 0)
  | .byt y => y.size ≤ sizeLine ∧ k = ((y.size : Int) != 0)
  | .ref p => (∃ xs, SqL K H p xs ∧ k = !xs.isEmpty) ∨ (∃ xs, SqT K H p xs ∧ k = !xs.isEmpty) ∨ ∃ kvs, H p = some (.dK kvs) ∧ k = !kvs.isEmpty
  | _ => False
theorem isEmpty_kv {κ : Type} {kvs : List (κ × V)} {vs : List (κ × Value)} (r : KV kvs vs) : (!vs.isEmpty) = !kvs.isEmpty := by
  cases r <;> rfl
theorem isEmpty_of {xs : List V} {its : List Value} (r : Vals xs its) : (!its.toArray.isEmpty) = !xs.isEmpty := by
  cases r <;> simp
theorem line63 : (sizeLine : Nat) < 2 ^ 63 := by rw [sizeLine_eq]; decide
theorem tru_ok : TruR X (fun x H Q => ∃ k, TruV X.K x H k ∧ Q k H) := by
  intro pins s σ H x v Q I rx h
  obtain ⟨k, e, q⟩ := h
  have hl := line63
  have hs : sizeLine = 16777216 := sizeLine_eq
  cases x with
  | non =>
    cases rx
    have e' : k = false := e
    subst e'
    exact truthy_none ⟨H, I, q⟩
  | bl b =>
    cases rx
    have e' : k = b := e
    subst e'
    exact wpAny_truthy_bool ⟨H, I, q⟩
  | int i =>
    obtain ⟨t, rfl⟩ := rx
    have e' : k = (i != 0) := e
    subst e'
    exact PySem.P.truthy_int ⟨H, I, q⟩
  | str y =>
    obtain ⟨t, rfl⟩ := rx
    obtain ⟨hy, e'⟩ : y.length ≤ sizeLine ∧ k = ((y.length : Int) != 0) := e
    subst e'
    exact PySem.P.truthy_str (by omega) ⟨H, I.tok _, q⟩
  | byt y =>
    obtain ⟨t, rfl⟩ := rx
    obtain ⟨hy, e'⟩ : y.size ≤ sizeLine ∧ k = ((y.size : Int) != 0) := e
    subst e'
    exact PySem.W.truthy_bytes (by omega) ⟨H, I.tok _, q⟩
  | ref p =>
    cases rx
    have e' : (∃ xs, SqL X.K H p xs ∧ k = !xs.isEmpty) ∨ (∃ xs, SqT X.K H p xs ∧ k = !xs.isEmpty) ∨ ∃ kvs, H p = some (.dK kvs) ∧ k = !kvs.isEmpty := e
    rcases e' with ⟨xs, hx, e'⟩ | ⟨xs, hx, e'⟩ | ⟨kvs, hx, e'⟩
    · subst e'
      obtain ⟨its, r, pl, hz⟩ := I.list hx
      have hlen := r.length
      exact wpAny_truthy_list pl.isList (by simp only [List.size_toArray]; omega) ⟨H, I.tok _, by rw [isEmpty_of r]; exact q⟩
    · subst e'
      obtain ⟨its, r, pl, hz⟩ := I.tuple hx
      have hlen := r.length
      exact truthy_tuple pl (by simp only [List.size_toArray]; omega) ⟨H, I.tok _, by rw [isEmpty_of r]; exact q⟩
    · subst e'
      obtain ⟨hz, hS, vs, r, m⟩ : kvs.length ≤ sizeLine ∧ (p == sysModules) = false ∧ ∃ vs, KV kvs vs ∧ s.heap.DictOf (mixKind X.prog X.w) p vs := I.hok p _ hx
      have hlen : kvs.length = vs.length := Paired.length r
      exact wpAny_truthy_dict hS m (by omega) ⟨H, I.tok _, by rw [isEmpty_kv r]; exact q⟩
  | _ => exact (show False from e).elim
theorem pt_truth (ha : PE X a ta) (he : ∀ whole, isTrue a X.env whole = (do let v ← whole; standAt a.pos; holding [v] (truthy v))) :
    PT X a (fun σ H Q => ta σ H fun x H' => ∃ k, TruV X.K x H' k ∧ Q k H') := by
  intro pins s σ H Q I h
  exact isTrue_plain (thn (ha pins s σ H _ I h) fun v s1 ⟨x, H1, I1, r1, q1⟩ => tru_ok pins s1 σ H1 x v Q I1 r1 q1) (he _)
theorem vals1 {x : V} {us : List Value} (r : Vals [x] us) : ∃ u, us = [u] ∧ RelV x u := by
  cases r with
  | cons r1 r2 => cases r2; exact ⟨_, rfl, r1⟩
theorem vals2 {x y : V} {us : List Value} (r : Vals [x, y] us) : ∃ u w', us = [u, w'] ∧ RelV x u ∧ RelV y w' := by
  cases r with
  | cons r1 r2 =>
    cases r2 with
    | cons r3 r4 => cases r4; exact ⟨_, _, rfl, r1, r3⟩
theorem call_max2 (hc : X.calm = true) : CallR X (.builtin "max") (fun xs H Q => ∃ i j, xs = [.int i, .int j] ∧ Q (.int (if j > i then j else i)) H) := by
  intro pins s σ H xs us Q I r h
  obtain ⟨i, j, rfl, q⟩ := h
  obtain ⟨u, w', rfl, ⟨t, rfl⟩, ⟨t', rfl⟩⟩ := vals2 r
  refine max_two_ints (I.ok.hd hc) fun h' tk k => ⟨_, H, I.kept k, ?_, q⟩
  by_cases hj : j > i
  · rw [if_pos hj, if_pos hj]; exact ⟨_, rfl⟩
  · rw [if_neg hj, if_neg hj]; exact ⟨_, rfl⟩
theorem call_min2 (hc : X.calm = true) : CallR X (.builtin "min") (fun xs H Q => ∃ i j, xs = [.int i, .int j] ∧ Q (.int (if j < i then j else i)) H) := by
  intro pins s σ H xs us Q I r h
  obtain ⟨i, j, rfl, q⟩ := h
  obtain ⟨u, w', rfl, ⟨t, rfl⟩, ⟨t', rfl⟩⟩ := vals2 r
  refine min_two_ints (I.ok.hd hc) fun h' tk k => ⟨_, H, I.kept k, ?_, q⟩
  by_cases hj : j < i
  · rw [if_pos hj, if_pos hj]; exact ⟨_, rfl⟩
  · rw [if_neg hj, if_neg hj]; exact ⟨_, rfl⟩
end
end L2
namespace L2
open PySem PySem.Spec PyProof.Rows
structure ObjM (h : Heap) (x dx C : Addr) (mA : Str → Option Value) : Prop where
  obj : h.get? x = some (PySem.W.instObj C dx)
  ns : h.Ns1 dx mA
  ne : dx ≠ x
theorem lookIn_ns {h : Heap} {dx : Addr} {mA : Str → Option Value} (n : h.Ns1 dx mA) : ∃ od, h.get? dx = some od ∧ ∀ name, PySem.W.lookIn name od = some (mA name) := by
  obtain ⟨o, es, ep, ho, hd, hk, _, hm⟩ := n
  refine ⟨o, ho, fun name => ?_⟩
  have e := hm name
  unfold nsFind findBy at e
  rw [← Array.find?_toList] at e
  unfold PySem.W.lookIn
  rw [hd]
  dsimp only
  split
  · rename_i y q
    rw [q] at e
    exact congrArg some e
  · rename_i q
    rw [q] at e
    have a : es.toList.any (·.refKey) = false := by
      rw [List.any_eq_false]
      intro y hy
      obtain ⟨z, t, hkey⟩ := hk y (Array.mem_toList_iff.mp hy)
      simp [DictEntry.refKey, hkey]
    have a' : ¬ es.toList.any (·.refKey) = true := by rw [a]; exact Bool.false_ne_true
    rw [if_neg a']
    exact congrArg some e
theorem ObjM.look {h : Heap} {x dx C : Addr} {mA : Str → Option Value} (I : ObjM h x dx C mA) : ∃ od, PySem.W.InstAt h x (PySem.W.instObj C dx) C (some od) ∧ ∀ name, PySem.W.lookIn name od = some (mA name) :=
  let ⟨od, ho, hl⟩ := lookIn_ns I.ns
  ⟨od, ⟨I.obj, rfl, rfl, ho⟩, hl⟩
section
variable {prog : Program} {w : World} {A : Around} {E : Value → Shared → Prop} {s : Shared} {K : PySem.W.Frag} {x dx C f : Addr} {mA : Str → Option Value} {name : Str} {v : Value}
end
section
variable {P : Program} {w : World} {H H' : Hp} {h h' : Heap} {a C dx : Addr} {fs fs' : List (Str × V)}
theorem ins_get (hok : HOk P w H h) (e : H a = some (.ins C dx fs)) : ∃ mA, ObjM h a dx C mA ∧ (∀ f, RelO (fs.lookup f) (mA f)) ∧ PySem.Within mA (fs.map (·.1)) ∧ fs.length ≤ 1000 ∧ H dx = some (.own a) := by
  obtain ⟨d, z, ne, ob, mA, n, r, q⟩ := (show ObjOk P w H h a (.ins C dx fs) from hok a _ e)
  exact ⟨mA, ⟨ob, n, ne⟩, r, q, z, d⟩
end
structure Cls (K : PySem.W.Frag) (C : Addr) : Prop where
  pg : PySem.W.plainGet K C Str.empty = true
  hd : PySem.W.hasDictIn K C = true
  po : PySem.W.plainOver K C = true
  sa : PySem.W.findIn K (.ref C) "__setattr__" = some (some (.builtin "object.__setattr__"))
theorem Cls.get {K : PySem.W.Frag} {C : Addr} (c : Cls K C) (f : Str) : PySem.W.plainGet K C f = true := c.pg
structure Con (K : PySem.W.Frag) (C : Addr) (f : Str) (v : V) (u : Value) : Prop where
  at_ : PySem.W.findIn K (.ref C) f = some (some u)
  rel : RelV v u
  get : PySem.W.specialIn K u "__get__" = some none
  cp : PySem.W.copiedNames.contains f = false
structure Meth (K : PySem.W.Frag) (C : Addr) (m : Str) (f : Addr) : Prop where
  at_ : PySem.W.findIn K (.ref C) m = some (some (.ref f))
  fn : PySem.W.isFn K (.ref f) = true
  kp : PySem.W.keepIn K (.ref f) = true
section
variable {X : Cx} {pins : List (Addr × Obj)} {σ : St} {H : Hp} {s : Shared} {a C dx : Addr} {fs : List (Str × V)} {f : Str} {v : V} {A : Around} {E : Value → Shared → Prop}
end
section
variable {X : Cx} {o e value : Expr} {f : Str} {pos pos' tpos : Pos} {ta tv : TE}
end
section
variable {X : Cx} {pins : List (Addr × Obj)} {σ : St} {H : Hp} {s : Shared} {A : Around} {E : Value → Shared → Prop} {Q : Value → Shared → Prop} {c : Value} {b : Bool}
inductive TyOf (K : PySem.W.Frag) (H : Hp) : V → Value → Prop where
  | non : TyOf K H .non (.type "NoneType")
  | bl (x : Bool) : TyOf K H (.bl x) (.type "bool")
  | int (i : Int) : TyOf K H (.int i) (.type "int")
  | str (x : Str) : TyOf K H (.str x) (.type "str")
  | flt (x : UInt64) : TyOf K H (.flt x) (.type "float")
  | lst {a : Addr} {xs : List V} (e : H a = some (.lst xs)) : TyOf K H (.ref a) (.type "list")
  | frz {a : Addr} {o : Obj} {xs : List V} (e : H a = some (.frz o (.lst xs))) : TyOf K H (.ref a) (.type "list")
  | tup {a : Addr} {xs : List V} (e : H a = some (.tup xs)) : TyOf K H (.ref a) (.type "tuple")
  | dK {a : Addr} {kvs : List (Key × V)} (e : H a = some (.dK kvs)) : TyOf K H (.ref a) (.type "dict")
  | dT {a : Addr} {kvs : List (List Key × V)} (e : H a = some (.dT kvs)) : TyOf K H (.ref a) (.type "dict")
  | ins {a C dx : Addr} {fs : List (Str × V)} (e : H a = some (.ins C dx fs)) (cl : Cls K C) (ha : PySem.W.findIn K (.ref C) "__class__" = some (some (.builtin "object.__class__")))
      (hn : PySem.W.specialIn K (.builtin "object.__class__") "__get__" = some (some (.builtin "getset_descriptor.__get__"))) (htk : PySem.W.takesIn K (.builtin "object.__class__") = some true)
      (hm : PySem.W.mroIn K C (.type "object") = some true) : TyOf K H (.ref a) (.ref C)
theorem isinst_ok {x : V} {u t : Value} (I : Inv X pins σ H s) (rx : RelV x u) (ty : TyOf X.K H x t) (e : PySem.W.kitOne X.K t c = some b) (h : ∀ tk, Q (.bool b) { s with toks := tk }) :
    wpAny (model X.prog X.w) A (call (.builtin "isinstance") [u, c]) Q E s := by
  cases ty with
  | non => cases (show u = Value.none from rx); exact PySem.W.kia_one PySem.W.kitx_none I.kIn True.intro e (fun z => nomatch z) h
  | bl y => cases (show u = Value.bool y from rx); exact PySem.W.kia_one PySem.W.kitx_bool I.kIn True.intro e (fun z => nomatch z) h
  | int i => obtain ⟨t, q⟩ := (show ∃ t, u = Value.int i t from rx); cases q; exact PySem.W.kia_one PySem.W.kitx_int I.kIn True.intro e (fun z => nomatch z) h
  | str y => obtain ⟨t, q⟩ := (show ∃ t, u = Value.str y t from rx); cases q; exact PySem.W.kia_one PySem.W.kitx_str I.kIn True.intro e (fun z => nomatch z) h
  | flt y => obtain ⟨t, q⟩ := (show ∃ t, u = Value.float y t from rx); cases q; exact PySem.W.kia_one PySem.W.kitx_float I.kIn True.intro e (fun z => nomatch z) h
  | @lst a xs ea =>
    cases (show u = Value.ref a from rx)
    obtain ⟨_, _, n, _, h1⟩ := (show ObjOk X.prog X.w H s.heap a (.lst xs) from I.hok a _ ea)
    exact PySem.W.kia_one PySem.W.kitx_list I.kIn ⟨_, h1, rfl⟩ e (fun z => nomatch z) h
  | @frz a ob xs ea =>
    cases (show u = Value.ref a from rx)
    obtain ⟨_, _, _, n, _, h1⟩ := (show ObjOk X.prog X.w H s.heap a (.frz ob (.lst xs)) from I.hok a _ ea)
    exact PySem.W.kia_one PySem.W.kitx_list I.kIn ⟨_, h1, rfl⟩ e (fun z => nomatch z) h
  | @tup a xs ea =>
    cases (show u = Value.ref a from rx)
    obtain ⟨_, _, _, p⟩ := (show ObjOk X.prog X.w H s.heap a (.tup xs) from I.hok a _ ea)
    obtain ⟨o, h1, h2, _⟩ := p
    exact PySem.W.kia_one PySem.W.kitx_tuple I.kIn ⟨o, h1, h2⟩ e (fun z => nomatch z) h
  | @dK a kvs ea =>
    cases (show u = Value.ref a from rx)
    obtain ⟨_, _, vs, _, p⟩ := (show ObjOk X.prog X.w H s.heap a (.dK kvs) from I.hok a _ ea)
    obtain ⟨o, es, ep, h1, h2, _⟩ := p
    exact PySem.W.kia_one PySem.W.kitx_dict I.kIn ⟨o, h1, h2.1⟩ e (fun z => nomatch z) h
  | @dT a kvs ea =>
    cases (show u = Value.ref a from rx)
    obtain ⟨_, _, xs, _, o, es, ep, h1, h2, _⟩ := (show ObjOk X.prog X.w H s.heap a (.dT kvs) from I.hok a _ ea)
    exact PySem.W.kia_one PySem.W.kitx_dict I.kIn ⟨o, h1, h2.1⟩ e (fun z => nomatch z) h
  | @ins a C dx fs ea cl ha hn htk hm =>
    cases (show u = Value.ref a from rx)
    obtain ⟨mA, O, _⟩ := ins_get I.hok ea
    obtain ⟨od, J, _⟩ := O.look
    exact PySem.W.kia_one (PySem.W.kitx_own (cl.get _) cl.hd ha hn htk hm) I.kIn J e (fun z => nomatch z) h
end
end L2
namespace L2
open PySem PySem.Spec PyProof.Rows
structure Room (k : Nat) (A : Around) : Prop where
  hd : A.handled = none
  dp : A.depth + 3 * k + 5 < recursionLimit
  un : A.units + 16 * k + 200 < cLine
theorem Room.mono {j k : Nat} {A : Around} (r : Room k A) (h : j ≤ k) : Room j A := ⟨r.hd, by have := r.dp; omega, by have := r.un; omega⟩
theorem Room.deeper {k : Nat} {A : Around} (r : Room (k + 1) A) (env : Env) : Room k (A.deeper env) :=
  ⟨r.hd, by have := r.dp; show A.depth + 1 + 3 * k + 5 < _; omega, by have := r.un; show A.units + 3 + 16 * k + 200 < _; omega⟩
theorem Room.depth {k : Nat} {A : Around} (r : Room k A) : A.depth < recursionLimit := by have := r.dp; omega
theorem Room.units {k : Nat} {A : Around} (r : Room k A) : A.units + 64 < cLine := by have := r.un; omega
def tNil : TA := fun _ H Q => Q [] H
def tCons (ta : TE) (tr : TA) : TA := fun σ H Q => ta σ H fun x H1 => tr σ H1 fun xs H2 => Q (x :: xs) H2
section
variable {X : Cx} {e : Expr} {es : List Expr} {te : TE} {t : TA} {pos : Pos}
theorem pa_nil : PA X [] tNil := fun _ _ _ _ H Q I h => Calls.spliced_nil ⟨[], H, I, .nil, h⟩
theorem pa_cons (ha : PE X e te) (hr : PA X es t) (hs : starEach (e :: es) X.env = (false, eval e X.env) :: starEach es X.env := by rfl) : PA X (e :: es) (tCons te t) := by
  intro pos pins s σ H Q I h
  rw [hs]
  show wpAny _ _ (spliced ((false, eval e X.env) :: backTo pos (starEach es X.env))) _ _ s
  refine Calls.spliced_cons (thn (ha pins s σ H _ I h) fun u s1 ⟨x, H1, I1, r1, q1⟩ => ?_)
  exact thn (hr pos pins s1 σ H1 _ I1 q1) fun us s2 ⟨xs, H2, I2, r2, q2⟩ => ⟨x :: xs, H2, I2, .cons r1 r2, q2⟩
def tTup (t : TA) : TE := fun σ H Q => t σ H fun xs H1 => xs.length ≤ sizeLine ∧ ∀ p, H1 p = none → Q (.ref p) (upd H1 p (.tup xs))
def tLst (t : TA) : TE := fun σ H Q => t σ H fun xs H1 => xs.length ≤ sizeLine ∧ ∀ p, H1 p = none → Q (.ref p) (upd H1 p (.lst xs))
theorem pe_tup {x1} (h : PA X es t) : PE X (.Tuple es x1 pos) (tTup t) := by
  intro pins s σ H Q I hq
  refine wpAny_Tuple_spliced (thn (h pos pins s σ H _ I hq) fun us s1 ⟨xs, H1, I1, r, z, q⟩ => ⟨by rw [← r.length]; exact z, ?_⟩)
  have hf : H1 s1.heap.objs.size = none := I1.hok.fresh (Nat.le_refl _)
  refine ⟨.ref s1.heap.objs.size, upd H1 s1.heap.objs.size (.tup xs), I1.laid (t' := s1.toks) (fun b u e => Heap.get?_push_of_some _ e) (Nat.le_refl _) ?_, rfl, q _ hf⟩
  exact ⟨z, us, r, ⟨_, Heap.get?_push_size _ rfl, rfl, _, rfl⟩⟩
theorem pe_lst (h : PA X es t) : PE X (.List es pos) (tLst t) := by
  intro pins s σ H Q I hq
  refine wpAny_List_spliced (thn (h pos pins s σ H _ I hq) fun us s1 ⟨xs, H1, I1, r, z, q⟩ => ⟨by rw [← r.length]; exact z, ?_⟩)
  have hf : H1 s1.heap.objs.size = none := I1.hok.fresh (Nat.le_refl _)
  refine ⟨.ref s1.heap.objs.size, upd H1 s1.heap.objs.size (.lst xs), I1.laid (t' := s1.toks) (fun b u e => Heap.get?_push_of_some _ e) (Nat.le_refl _) ?_, rfl, q _ hf⟩
  exact ⟨z, us, 0, r, Heap.get?_push_size _ rfl⟩
end
abbrev Sp := List V → Hp → VK → XK → Prop
abbrev CXT := List Env → Hp → Shared → XK → Value → Shared → Prop
structure Env0 (P : Program) (w : World) (K : PySem.W.Frag) (mg : Str → Option Value) (base : Heap) (A : Around) (outer : List Env) (s : Shared) (H : Hp) : Prop where
  frames : A.frames = some outer
  mod : Mod K mg base
  bs : ∀ b o, base.get? b = some o → s.heap.get? b = some o ∧ H b = none
  bsz : base.objs.size ≤ s.heap.objs.size
  funs : s.heap.FunFrames base outer
  frf : ∀ b ∈ frs outer, H b = none
  hok : HOk P w H s.heap
  bare : AllBare s.gens
def CE (outer : List Env) (P : Program) (w : World) (H : Hp) (s : Shared) (Q : VK) (u : Value) (s' : Shared) : Prop :=
  ∃ v H', s'.os = s.os ∧ AllBare s'.gens ∧ Un (frs outer) [] H H' s.heap s'.heap ∧ HOk P w H' s'.heap ∧ RelV v u ∧ Q v H'
def CR (CX : CXT) (outer : List Env) (P : Program) (w : World) (H : Hp) (s : Shared) (Q : VK) (E : XK) (r : Result) (s' : Shared) : Prop :=
  match r with
  | .ok (.ret u) => CE outer P w H s Q u s'
  | .ok _ => False
  | .error e => CX outer H s E e s'
structure FnOk (P : Program) (w : World) (K : PySem.W.Frag) (mg : Str → Option Value) (base : Heap) (CX : CXT) (k : Nat) (f : Addr) (fd : FuncData) (ps : List Str) (sp : Sp) : Prop where
  len : ∀ vs H Q E, sp vs H Q E → vs.length = ps.length
  run : ∀ (A : Around) (outer : List Env) (s : Shared) (H : Hp) (args : Args) (us : List Value) (vs : List V) (Q : VK) (E : XK), Room k A → Env0 P w K mg base A outer s H → BindsTo s fd args (ps.zip us) → Vals vs us → sp vs H Q E →
    codeAny (model P w) A (.call (.ref f) args) (CR CX outer P w H s Q E) s
theorem FnOk.imp {P : Program} {w : World} {K : PySem.W.Frag} {mg : Str → Option Value} {base : Heap} {CX : CXT} {k : Nat} {f : Addr} {fd : FuncData} {ps : List Str} {sp sp' : Sp} (F : FnOk P w K mg base CX k f fd ps sp)
    (h : ∀ vs H Q E, sp' vs H Q E → sp vs H Q E) : FnOk P w K mg base CX k f fd ps sp' :=
  ⟨fun vs H Q E q => F.len vs H Q E (h _ _ _ _ q), fun A outer s H args us vs Q E hr he hb hv hs => F.run A outer s H args us vs Q E hr he hb hv (h _ _ _ _ hs)⟩
section
variable {X : Cx} {pins : List (Addr × Obj)} {σ : St} {H : Hp} {s s' : Shared}
theorem Inv.env0 (I : Inv X pins σ H s) : Env0 X.prog X.w X.K X.mg X.base X.A X.stack s H :=
  ⟨I.ok.frames, I.ok.mod, I.bs, Nat.le_trans I.ok.bsz I.sz, I.stack, I.stkFree, I.hok, I.bare⟩
theorem Inv.after {Q : VK} {u : Value} (I : Inv X pins σ H s) (h : CE X.stack X.prog X.w H s Q u s') : EP X pins σ Q u s' := by
  obtain ⟨v, H', os, bare, un, hok, r, q⟩ := h
  obtain ⟨hh, g, d, t, os'⟩ := s'
  obtain rfl : os' = s.os := os
  exact ⟨v, H', I.call (h' := hh) (g' := g) (d' := d) (t' := t) (ch := []) un hok bare (fun b z => absurd z (by simp)), r, q⟩
end
def tCall (sp : Sp) (dvs : List V) (E : XK) (t : TA) : TE := fun σ H Q => t σ H fun vs H1 => sp (vs ++ dvs) H1 Q E
def Binds (K : PySem.W.Frag) (fd : FuncData) (ps : List Str) (ds : List Value) : Prop :=
  ∀ (s : Shared) (us : List Value), K.In s.heap → (us ++ ds).length = ps.length → BindsTo s fd ⟨us, []⟩ (ps.zip (us ++ ds))
theorem Binds.all {K : PySem.W.Frag} {fd : FuncData} {ps : List Str} (h : ∀ us : List Value, us.length = ps.length → bindArgs fd ⟨us, []⟩ = pure (ps.zip us)) : Binds K fd ps [] := fun s us _ hl => by
  rw [List.append_nil] at hl ⊢
  exact .of_eq (h us hl)
def Passes (CX : CXT) (X : Cx) (E : XK) : Prop := ∀ (pins : List (Addr × Obj)) (σ : St) (H : Hp) (s : Shared) (e : Value) (s' : Shared), Inv X pins σ H s → CX X.stack H s E e s' → X.xe e s'
section
variable {X : Cx} {CX : CXT} {k : Nat} {f C : Addr} {fd : FuncData} {ps : List Str} {sp : Sp} {dvs : List V} {ds : List Value} {E : XK} {x m : Str} {p pos apos : Pos} {e o : Expr} {es : List Expr} {ta : TE} {t : TA}
theorem run_fn {pins : List (Addr × Obj)} {σ : St} {H : Hp} {s : Shared} {Q : VK} {us : List Value} {vs : List V} (F : FnOk X.prog X.w X.K X.mg X.base CX k f fd ps sp) (hr : Room k X.A) (hb : Binds X.K fd ps ds) (hd : Vals dvs ds) (hx : Passes CX X E)
    (I : Inv X pins σ H s) (r : Vals vs us) (h : sp (vs ++ dvs) H Q E) : wpAny (model X.prog X.w) X.A (call (.ref f) us) (EP X pins σ Q) X.xe s := by
  have r2 : Vals (vs ++ dvs) (us ++ ds) := r.append hd
  have hl : (us ++ ds).length = ps.length := by rw [← r2.length]; exact F.len _ _ _ _ h
  refine wpAny_call (codeAny_mono (F.run X.A X.stack s H ⟨us, []⟩ (us ++ ds) (vs ++ dvs) Q E hr I.env0 (hb s us I.kIn hl) r2 h) fun r s' hq => ?_)
  cases r with
  | error e => exact hx pins σ H s e s' I hq
  | ok fl =>
    cases fl with
    | ret u => exact I.after hq
    | next => exact False.elim hq
    | brk => exact False.elim hq
    | cont => exact False.elim hq
theorem pe_call (F : FnOk X.prog X.w X.K X.mg X.base CX k f fd ps sp) (hr : Room k X.A) (hg : Gl X x) (hm : X.mg x = some (.ref f)) (hk : PySem.W.keepIn X.K (.ref f) = true) (hb : Binds X.K fd ps ds) (hd : Vals dvs ds) (hx : Passes CX X E)
    (ha : PA X (e :: es) t) (hdb : (x == ("__debug__" : Str)) = false := by decide) (he : starEach (e :: es) X.env = (false, eval e X.env) :: starEach es X.env := by rfl) (hpl : (backTo pos (starEach es X.env)).any (·.1) = false := by rfl) :
    PE X (.Call (.Name x p) (e :: es) [] pos) (tCall sp dvs E t) := by
  intro pins s σ H Q I h
  refine wpAny_Call_Name_kw (ld_glob I hg hm ?_ hdb)
  refine PySem.W.callWith_K (h₀ := X.base) I.ok.mod.kin hk (thn (ha pos pins s σ H _ I h) fun us s1 ⟨vs, H1, I1, r, q⟩ => ⟨I1.kIn, ?_⟩) he hpl
  exact run_fn F hr hb hd hx I1 r q
structure Mk (K : PySem.W.Frag) (C f : Addr) : Prop where
  makes : PySem.W.makesIn K C = true
  init : PySem.W.findIn K (.ref C) "__init__" = some (some (.ref f))
  fn : PySem.W.isFn K (.ref f) = true
  kp : PySem.W.keepIn K (.ref C) = true
end
section
variable {X : Cx} {CX : CXT} {k : Nat} {f C : Addr} {fd : FuncData} {ps ks : List Str} {sp : Sp} {E : XK} {x m : Str} {p pos apos kpos : Pos} {e o : Expr} {es : List Expr} {kws : List Keyword} {te ta : TE} {t tk : TA} {nm : Option Str}
structure KBinds (K : PySem.W.Frag) (fd : FuncData) (ps ks : List Str) (g : List Value → List Value → List Value) (gV : List V → List V → List V) : Prop where
  to : ∀ (s : Shared) (us ws : List Value), K.In s.heap → (g us ws).length = ps.length → BindsTo s fd ⟨us, ks.zip ws⟩ (ps.zip (g us ws))
  rel : ∀ {vs : List V} {us : List Value} {zs : List V} {ws : List Value}, Vals vs us → Vals zs ws → Vals (gV vs zs) (g us ws)
variable {g : List Value → List Value → List Value} {gV : List V → List V → List V}
end
structure FnScope (N P : List Str) (sc : Scope) : Prop where
  kind : sc.kind = .function
  co : sc.isCoroutine = false
  gen : sc.isGenerator = false
  nd : N.Nodup
  pre : N.take P.length = P
  par : ∀ x ∈ P, sc.names.lookup x = some .local ∨ sc.names.lookup x = some .cell
  nofree : ∀ y ∈ sc.names, y.2 ≠ .free
theorem bindL_out {kindOf : Str → Option NameKind} {x : Str} : ∀ {binds : List (Str × Value)} {m : Str → Option Value}, (∀ v, (x, v) ∉ binds) → bindL kindOf binds m x = m x
  | [], _, _ => rfl
  | (n, v) :: r, m, h => by
    unfold bindL
    rw [bindL_out fun w hw => h w (List.mem_cons_of_mem _ hw)]
    split
    · have : x ≠ n := by rintro rfl; exact h v List.mem_cons_self
      simp [this]
    · rfl
theorem bindC_out {kindOf : Str → Option NameKind} {x : Str} : ∀ {binds : List (Str × Value)} {m : Str → Option Value}, (∀ v, (x, v) ∉ binds) → bindC kindOf binds m x = m x
  | [], _, _ => rfl
  | (n, v) :: r, m, h => by
    unfold bindC
    rw [bindC_out fun w hw => h w (List.mem_cons_of_mem _ hw)]
    split
    · rfl
    · have : x ≠ n := by rintro rfl; exact h v List.mem_cons_self
      simp [this]
theorem bindL_get {kindOf : Str → Option NameKind} {x : Str} {v : Value} : ∀ {P : List Str} {vs : List Value} {i : Nat} {m : Str → Option Value}, P.Nodup → P[i]? = some x → vs[i]? = some v → kindOf x = some .local →
    bindL kindOf (P.zip vs) m x = some v
  | [], _, _, _, _, h, _, _ => by simp at h
  | _ :: _, [], _, _, _, _, h, _ => by simp at h
  | p :: P, w :: vs, 0, m, nd, h1, h2, hk => by
    simp at h1 h2; subst h1; subst h2
    show bindL kindOf ((p, w) :: P.zip vs) m p = _
    unfold bindL
    rw [bindL_out fun v hv => (List.nodup_cons.mp nd).1 (List.of_mem_zip hv).1, if_pos hk]
    simp
  | p :: P, w :: vs, i + 1, m, nd, h1, h2, hk => by
    show bindL kindOf ((p, w) :: P.zip vs) m x = _
    unfold bindL
    exact bindL_get (i := i) (List.nodup_cons.mp nd).2 (by simpa using h1) (by simpa using h2) hk
theorem bindC_get {kindOf : Str → Option NameKind} {x : Str} {v : Value} : ∀ {P : List Str} {vs : List Value} {i : Nat} {m : Str → Option Value}, P.Nodup → P[i]? = some x → vs[i]? = some v → kindOf x ≠ some .local →
    bindC kindOf (P.zip vs) m x = some v
  | [], _, _, _, _, h, _, _ => by simp at h
  | _ :: _, [], _, _, _, _, h, _ => by simp at h
  | p :: P, w :: vs, 0, m, nd, h1, h2, hk => by
    simp at h1 h2; subst h1; subst h2
    show bindC kindOf ((p, w) :: P.zip vs) m p = _
    unfold bindC
    rw [bindC_out fun v hv => (List.nodup_cons.mp nd).1 (List.of_mem_zip hv).1, if_neg hk]
    simp
  | p :: P, w :: vs, i + 1, m, nd, h1, h2, hk => by
    show bindC kindOf ((p, w) :: P.zip vs) m x = _
    unfold bindC
    exact bindC_get (i := i) (List.nodup_cons.mp nd).2 (by simpa using h1) (by simpa using h2) hk
def start (N : List Str) (vs : List V) : St := vs.map some ++ List.replicate (N.length - vs.length) none
def cxOf (CX : CXT) (P : Program) (w : World) (K : PySem.W.Frag) (mg : Str → Option Value) (base : Heap) (N : List Str) (qual : Str) (scope : Scope) (f : Addr) (cd : Value) (A : Around) (outer : List Env) (s : Shared) (H : Hp) (E : XK) : Cx where
  prog := P
  w := w
  K := K
  mg := mg
  base := base
  A := A.deeper (envOfC qual scope s.heap.objs.size f cd)
  N := N
  s₀ := s
  H₀ := H
  env := envOfC qual scope s.heap.objs.size f cd
  outer := outer
  stack := envOfC qual scope s.heap.objs.size f cd :: outer
  ex := []
  calm := true
  fn := fun _ => true
  pn := []
  xe := fun e s' => wpAny (model P w) (A.deeper (envOfC qual scope s.heap.objs.size f cd)) (leaving (envOfC qual scope s.heap.objs.size f cd) e) (fun _ s'' => CX outer H s E e s'') (fun e' s'' => CX outer H s E e' s'') s'
theorem cell_has {sc : Scope} {n : Nat} {x : Str} (h : sc.names.lookup x = some .cell) : ∃ c, (cellsFrom n sc.names []).lookup x = some c := by
  have q := PySem.W.cellsFrom_some sc.names n [] (.inl h)
  exact Option.isSome_iff_exists.mp q
theorem inv_start {CX : CXT} {P : Program} {w : World} {K : PySem.W.Frag} {mg : Str → Option Value} {base : Heap} {N ps : List Str} {qual : Str} {scope : Scope} {f : Addr} {cd : Value} {A : Around} {outer : List Env} {s s1 : Shared} {H : Hp} {E : XK} {us : List Value} {vs : List V}
    (S : FnScope N ps scope) (hd : A.handled = none) (e0 : Env0 P w K mg base A outer s H) (hl : vs.length = ps.length) (r : Vals vs us)
    (x : InCallC s s.heap.objs.size (bindL (envOfC qual scope s.heap.objs.size f cd).kindOf (ps.zip us) fun _ => none) (cellsFrom (s.heap.objs.size + 1) scope.names []) (bindC (envOfC qual scope s.heap.objs.size f cd).kindOf (ps.zip us) fun _ => none) s1) :
    Inv (cxOf CX P w K mg base N qual scope f cd A outer s H E) [] (start N vs) H s1 := by
  have hpl : ps.length ≤ N.length := by have := congrArg List.length S.pre; rw [List.length_take] at this; omega
  obtain ⟨h1, tk, rfl, hk⟩ := x.done
  have noA : ∀ b : Addr, b ∉ (cxOf CX P w K mg base N qual scope f cd A outer s H E).ex := fun b z => absurd (show b ∈ ([] : List Addr) from z) (by simp)
  refine ⟨⟨e0.mod, S.kind, rfl, rfl, Nat.le_refl _, fun y z c h1 h2 => ?_, fun y hy => ?_, fun y c _ h => ?_, fun _ => hd, Around.frames_deeper e0.frames, .inr ⟨rfl, rfl⟩, fun b z => absurd z (noA b), e0.bs, e0.bsz, fun b _ _ => noA b, fun b z => absurd z (noA b), e0.funs, e0.frf⟩,
    rfl, e0.bare, Un.kept hk, ⟨_, x.toInCall.ns, fun i y v h1 h2 h3 => ?_⟩, fun y c h => ⟨_, x.cell y c h⟩, e0.hok.fresh (Nat.le_refl _), fun y c h => ?_, fun p hp => absurd (show p ∈ ([] : List (Addr × Obj)) from hp) (by simp), e0.hok.kept hk, ?_⟩
  · exact name_of_addr x.apart (PySem.mem_of_lookup h1) (PySem.mem_of_lookup h2)
  · have hy : scope.names.lookup y = some .cell ∨ scope.names.lookup y = some .free := hy
    rcases hy with hy | hy
    · exact cell_has hy
    · exact absurd rfl (S.nofree _ (PySem.mem_of_lookup hy))
  · exact Nat.le_of_lt (x.above y c (PySem.mem_of_lookup h))
  · have hi : i < vs.length := by
      unfold start at h2
      by_cases hi : i < vs.length
      · exact hi
      · rw [List.getElem?_append_right (by simpa using hi)] at h2
        rw [List.getElem?_replicate] at h2
        split at h2 <;> cases h2
    have ha : vs[i]? = some v := by
      unfold start at h2
      rw [List.getElem?_append_left (by simpa using hi), List.getElem?_map] at h2
      cases e : vs[i]? with
      | none => rw [e] at h2; cases h2
      | some a => rw [e] at h2; cases h2; rfl
    obtain ⟨u, hu, rv⟩ := r.get ha
    have hp : ps[i]? = some y := by
      rw [← S.pre, List.getElem?_take_of_lt (by omega)]; exact h1
    have ndP : ps.Nodup := by rw [← S.pre]; exact S.nd.sublist (List.take_sublist _ _)
    refine ⟨u, rv, ?_⟩
    rcases S.par y (List.mem_of_getElem? hp) with k | k
    · exact .inl ⟨k, bindL_get ndP hp hu k⟩
    · obtain ⟨c, e⟩ := cell_has (n := s.heap.objs.size + 1) k
      refine .inr ⟨.inl k, c, e, ?_⟩
      have q := x.cell y c e
      rw [bindC_get ndP hp hu (by show scope.names.lookup y ≠ _; rw [k]; decide)] at q
      exact q
  · exact e0.hok.fresh (Nat.le_of_lt (x.above y c (PySem.mem_of_lookup h)))
  · unfold start
    show _ = N.length
    rw [List.length_append, List.length_map, List.length_replicate]
    omega
theorem fn_of {CX : CXT} {P : Program} {w : World} {K : PySem.W.Frag} {mg : Str → Option Value} {base : Heap} {k : Nat} {f : Addr} {name qual : Str} {params : Arguments} {body : List Stmt} {scope : Scope} {dV kV doc pm cdv ct oc : Value} {an od : Option Addr}
    {osl : Array (Option Value)} {N ps : List Str} {sp : Sp} (lk : K.lookup f = some ⟨oc, od, .func (PySem.W.fnOf name qual params body scope dV kV doc pm an cdv ct), osl⟩) (hcd : PySem.W.codeIn K cdv qual = true) (S : FnScope N ps scope)
    (len : ∀ vs H Q E, sp vs H Q E → vs.length = ps.length)
    (hbody : ∀ (A : Around) (outer : List Env) (s : Shared) (H : Hp) (vs : List V) (Q : VK) (E : XK), Room k (A.deeper (envOfC qual scope s.heap.objs.size f cdv)) → sp vs H Q E →
      ∃ t, PSs (cxOf CX P w K mg base N qual scope f cdv A outer s H E) body t ∧ t { nx := fun _ H' => Q .non H', rt := Q } (start N vs) H) :
    FnOk P w K mg base CX (k + 1) f (PySem.W.fnOf name qual params body scope dV kV doc pm an cdv ct) ps sp := by
  refine ⟨len, fun A outer s H args us vs Q E hr e0 hb r hsp => ?_⟩
  have hl := len _ _ _ _ hsp
  have KX : K.In s.heap := e0.mod.kin.keeps fun b o e => (e0.bs b o e).1
  have lim : s.heap.NoLimit := e0.mod.nolimit.keeps fun b o e => (e0.bs b o e).1
  have hkind : ∀ y ∈ ps.zip us, scope.names.lookup y.1 = some .local ∨ (scope.names.lookup y.1 = some .cell ∧ ((cellsFrom (s.heap.objs.size + 1) scope.names []).lookup y.1).isSome = true) := fun ⟨n, v⟩ hy => by
    rcases S.par n (List.of_mem_zip hy).1 with q | q
    · exact .inl q
    · exact .inr ⟨q, PySem.W.cellsFrom_some _ _ _ (.inl q)⟩
  refine codeAny_call_function hr.depth (KX _ _ lk) rfl S.co S.gen rfl (PySem.W.codeRec_of KX hcd) (hb _ _ _ _ ?_)
  refine wpAny_newFunctionEnv_cells S.kind hkind fun env he s1 x => ?_
  subst he
  refine ⟨lim.keeps x.toInCall.keep, codeAny_func ?_⟩
  obtain ⟨t, ht, hq⟩ := hbody A outer s H vs Q E (hr.deeper _) hsp
  have I : Inv (cxOf CX P w K mg base N qual scope f cdv A outer s H E) [] (start N vs) H s1 := inv_start S hr.hd e0 hl r x
  refine wpAny_mono (ht [] s1 (start N vs) H _ I hq) (fun fl s' hs => ?_) fun e s' hs => hs
  have fin : ∀ {σ' : St} {H' : Hp} {v : V} {u : Value}, Inv (cxOf CX P w K mg base N qual scope f cdv A outer s H E) [] σ' H' s' → RelV v u → Q v H' → CE outer P w H s Q u s' :=
    fun {σ' H' v u} J rv q => ⟨v, H', J.os, J.bare, J.base, J.hok, rv, q⟩
  cases fl with
  | ret u =>
    obtain ⟨v, σ', H', J, rv, q⟩ := hs
    exact fin J rv q
  | next =>
    obtain ⟨σ', H', J, q⟩ := hs
    exact fin (v := V.non) (u := Value.none) J rfl q
  | brk =>
    obtain ⟨_, _, _, q⟩ := hs
    exact False.elim q
  | cont =>
    obtain ⟨_, _, _, q⟩ := hs
    exact False.elim q
end L2
namespace L2
open PySem PySem.Spec PyProof.Rows
section
variable {X : Cx} {x : Str} {p pos : Pos} {e : Expr} {es : List Expr} {t : TA} {id T : String} {r : List V → Hp → VK → Prop}
def tCB (r : List V → Hp → VK → Prop) (t : TA) : TE := fun σ H Q => t σ H fun vs H1 => r vs H1 Q
theorem pe_callB (hc : CallR X (.builtin id) r) (hg : Gl X x) (hm : X.mg x = none) (hv : bootBuiltins x = some (.builtin id)) (ha : PA X (e :: es) t) (hn : x ≠ "__name__" := by decide) (hdb : (x == ("__debug__" : Str)) = false := by decide)
    (he : starEach (e :: es) X.env = (false, eval e X.env) :: starEach es X.env := by rfl) (hpl : (backTo pos (starEach es X.env)).any (·.1) = false := by rfl) : PE X (.Call (.Name x p) (e :: es) [] pos) (tCB r t) := by
  intro pins s σ H Q I h
  refine wpAny_Call_Name_kw (ld_blt I hg hm hv ?_ hn hdb)
  exact PyProof.Rows.callWith_builtin1 (thn (ha pos pins s σ H _ I h) fun us s1 ⟨vs, H1, I1, r1, q1⟩ => hc pins s1 σ H1 vs us Q I1 r1 q1) he hpl
theorem pe_callTy (hc : CallR X (.type T) r) (hg : Gl X x) (hm : X.mg x = none) (hv : bootBuiltins x = some (.type T)) (ha : PA X (e :: es) t) (hn : x ≠ "__name__" := by decide) (hdb : (x == ("__debug__" : Str)) = false := by decide)
    (he : starEach (e :: es) X.env = (false, eval e X.env) :: starEach es X.env := by rfl) (hpl : (backTo pos (starEach es X.env)).any (·.1) = false := by rfl) : PE X (.Call (.Name x p) (e :: es) [] pos) (tCB r t) := by
  intro pins s σ H Q I h
  refine wpAny_Call_Name_kw (ld_blt I hg hm hv ?_ hn hdb)
  exact PyProof.Rows.callWith_type1 (thn (ha pos pins s σ H _ I h) fun us s1 ⟨vs, H1, I1, r1, q1⟩ => hc pins s1 σ H1 vs us Q I1 r1 q1) he hpl
end
end L2
namespace HT
open PySem PyProof.Rows
def lexLt : List Int → List Int → Bool
  | [], [] => false
  | [], _ :: _ => true
  | _ :: _, [] => false
  | x :: xs, y :: ys => if x = y then lexLt xs ys else decide (x < y)
theorem lexLt_cons (x y : Int) (xs ys : List Int) : lexLt (x :: xs) (y :: ys) = if x = y then lexLt xs ys else decide (x < y) := rfl
section
open PySem.SeqAt
open PySem.AutoSeq1 (wpAny_loadPart')
open PySem.MeetsSeq PySem.MeetsSeq2 PySem.MeetsSeq3
end
section
variable {prog : Program} {w : World} {A : Around} {E : Value → Shared → Prop} {s : Shared}
end
end HT
namespace L2
open PySem PySem.Spec PyProof.Rows
abbrev TO := St → Hp → (Option Int → Hp → Prop) → Prop
section
variable {X : Cx} {e : Expr} {te : TE} {lo hi : Option Expr} {tl th : TO} {pos p2 : Pos}
def SlR (X : Cx) (r : V → Option Int → Option Int → Hp → VK → Prop) : Prop :=
  ∀ (pins : List (Addr × Obj)) (s : Shared) (σ : St) (H : Hp) (x : V) (v vl vu : Value) (lo hi : Option Int) (sl : Addr) (Q : VK), Inv X pins σ H s → RelV x v → s.heap.IsSliceOf sl vl vu .none → IsPart vl lo → IsPart vu hi → r x lo hi H Q →
    ∃ T id, typeLookup (.type T) "__getitem__" = pure (some (.builtin id)) ∧ s.TypeIs v T ∧ wpAny (model X.prog X.w) X.A (getItem v (.ref sl)) (EP X pins σ Q) X.xe s
theorem SlR.or {r r' : V → Option Int → Option Int → Hp → VK → Prop} (h : SlR X r) (h' : SlR X r') : SlR X (fun x lo hi H Q => r x lo hi H Q ∨ r' x lo hi H Q) := by
  intro pins s σ H x v vl vu lo hi sl Q I rx hs pl pu q
  rcases q with q | q
  · exact h pins s σ H x v vl vu lo hi sl Q I rx hs pl pu q
  · exact h' pins s σ H x v vl vu lo hi sl Q I rx hs pl pu q
end
end L2
namespace L2
open PySem PySem.Spec PyProof.Rows
def ixN (n : Nat) (i : Int) : Option Nat := if 0 ≤ i then (if i < n then some i.toNat else none) else if -(n : Int) ≤ i then some (i + n).toNat else none
def atI {α : Type} (xs : List α) (i : Int) : Option α := (ixN xs.length i).bind fun j => xs[j]?
theorem ixN_seq {n : Nat} {i : Int} {j : Nat} (h : ixN n i = some j) : seqIndex? i n = some j ∧ j < n ∧ -(n : Int) ≤ i ∧ i < n := by
  unfold ixN at h
  by_cases h0 : 0 ≤ i
  · rw [if_pos h0] at h
    by_cases h1 : i < n
    · rw [if_pos h1] at h
      have e : i.toNat = j := Option.some.inj h
      exact ⟨by rw [seqIndex_of h0 h1, e], by omega, by omega, h1⟩
    · rw [if_neg h1] at h; cases h
  · rw [if_neg h0] at h
    by_cases h1 : -(n : Int) ≤ i
    · rw [if_pos h1] at h
      have e : (i + n).toNat = j := Option.some.inj h
      exact ⟨by rw [seqIndex_neg (by omega) h1, e], by omega, h1, by omega⟩
    · rw [if_neg h1] at h; cases h
theorem atI_get {α : Type} {xs : List α} {i : Int} {v : α} (h : atI xs i = some v) : ∃ j, seqIndex? i xs.length = some j ∧ xs[j]? = some v ∧ j < xs.length ∧ -(xs.length : Int) ≤ i ∧ i < xs.length := by
  unfold atI at h
  cases e : ixN xs.length i with
  | none => rw [e] at h; cases h
  | some j =>
    rw [e] at h
    obtain ⟨h1, h2, h3, h4⟩ := ixN_seq e
    exact ⟨j, h1, h, h2, h3, h4⟩
theorem atI_nat {α : Type} {xs : List α} {j : Nat} {v : α} (h : xs[j]? = some v) : atI xs (j : Int) = some v := by
  have hj : j < xs.length := (List.getElem?_eq_some_iff.mp h).1
  have e : ixN xs.length (j : Int) = some j := by
    unfold ixN
    rw [if_pos (by omega), if_pos (by omega)]; simp
  unfold atI; rw [e]; exact h
def PlainIx (b : Expr) : Prop := ∀ o i, subscripted b false o i = operate [o, i] (getItem o i)
def IxR (X : Cx) (r : R2) : Prop :=
  ∀ (value slice : Expr) (pins : List (Addr × Obj)) (s : Shared) (σ : St) (H : Hp) (x y : V) (v u : Value) (Q : VK), Inv X pins σ H s → RelV x v → RelV y u → r x y H Q →
    subscripted slice false v u = operate [v, u] (getItem v u) → wpAny (model X.prog X.w) X.A (subscriptTail value slice v u) (EP X pins σ Q) X.xe s
def MtR (X : Cx) (id : String) (r : V → List V → Hp → VK → Prop) : Prop :=
  ∀ (pins : List (Addr × Obj)) (s : Shared) (σ : St) (H : Hp) (x : V) (xs : List V) (v : Value) (us : List Value) (Q : VK), Inv X pins σ H s → RelV x v → Vals xs us → r x xs H Q →
    wpAny (model X.prog X.w) X.A (call (.builtin id) (v :: us)) (EP X pins σ Q) X.xe s
section
variable {X : Cx} {a b : Expr} {ta tb : TE} {pos : Pos}
theorem IxR.or {r r' : R2} (h : IxR X r) (h' : IxR X r') : IxR X (fun x y H Q => r x y H Q ∨ r' x y H Q) := by
  intro value slice pins s σ H x y v u Q I rx ry q hs
  rcases q with q | q
  · exact h value slice pins s σ H x y v u Q I rx ry q hs
  · exact h' value slice pins s σ H x y v u Q I rx ry q hs
theorem MtR.or {id : String} {r r' : V → List V → Hp → VK → Prop} (h : MtR X id r) (h' : MtR X id r') : MtR X id (fun x xs H Q => r x xs H Q ∨ r' x xs H Q) := by
  intro pins s σ H x xs v us Q I rx rs q
  rcases q with q | q
  · exact h pins s σ H x xs v us Q I rx rs q
  · exact h' pins s σ H x xs v us Q I rx rs q
theorem pe_ix {r : R2} (hr : IxR X r) (ha : PE X a ta) (hb : PE X b tb) (hs : PlainIx b) : PE X (.Subscript a b pos) (tOp r ta tb) := by
  intro pins s σ H Q I h
  exact Subscript_ (binT ha hb I h fun v u s2 x y H2 I2 rx ry q => hr a b pins s2 σ H2 x y v u Q I2 rx ry q (hs _ _))
def rIxL (K : PySem.W.Frag) : R2 := fun x y H Q => ∃ p xs i v, x = .ref p ∧ y = .int i ∧ SqL K H p xs ∧ atI xs i = some v ∧ Q v H
def rIxT (K : PySem.W.Frag) : R2 := fun x y H Q => ∃ p xs i v, x = .ref p ∧ y = .int i ∧ SqT K H p xs ∧ atI xs i = some v ∧ Q v H
theorem ix_list : IxR X (rIxL X.K) := by
  intro value slice pins s σ H x y v u Q I rx ry h hs
  obtain ⟨p, xs, i, z, rfl, rfl, hq, he, q⟩ := h
  cases rx
  obtain ⟨t, rfl⟩ := ry
  obtain ⟨its, r, pl, hz⟩ := I.list hq
  obtain ⟨j, h1, h2, h3, h4, h5⟩ := atI_get he
  obtain ⟨w, ew, rw'⟩ := r.get h2
  have hl := r.length
  have hn := line63
  have fin : EP X pins σ Q w s := ⟨z, H, I, rw', q⟩
  by_cases h0 : 0 ≤ i
  · have hj : i.toNat = j := by
      rw [seqIndex_of h0 h5] at h1
      exact Option.some.inj h1
    exact item_listR pl.isList h0 (by omega) (by rw [hj]; simpa using ew) fin hs
  · have hj : (i + (its.toArray.size : Int)).toNat = j := by
      rw [seqIndex_neg (by omega) h4] at h1
      rw [List.size_toArray, ← hl]
      exact Option.some.inj h1
    exact subscriptTail_builtinR (x := w) pl.isList.typeIs slot_list_getitem.lookup
      (wpAny_getItem_list_neg (Q := fun r s' => r = w ∧ EP X pins σ Q r s') pl.isList (by omega) (by rw [List.size_toArray] <;> omega) (by omega) (by rw [hj]; simpa using ew) ⟨rfl, fin⟩) hs
theorem ix_tup : IxR X (rIxT X.K) := by
  intro value slice pins s σ H x y v u Q I rx ry h hs
  obtain ⟨p, xs, i, z, rfl, rfl, hq, he, q⟩ := h
  cases rx
  obtain ⟨t, rfl⟩ := ry
  obtain ⟨its, r, pl, hz⟩ := I.tuple hq
  obtain ⟨j, h1, h2, h3, h4, h5⟩ := atI_get he
  obtain ⟨w, ew, rw'⟩ := r.get h2
  have hl := r.length
  have hn := line63
  have fin : EP X pins σ Q w s := ⟨z, H, I, rw', q⟩
  exact subscriptTail_builtinR (x := w) pl.typeIs slot_tuple_getitem.lookup
    (getItem_tuple (j := j) (Q := fun r s' => r = w ∧ EP X pins σ Q r s') pl (by omega) (by omega) (by rw [List.size_toArray, ← hl]; exact h1) (by simpa using ew) ⟨rfl, fin⟩) hs
def flatV : V → Bool
  | .non => true
  | .bl _ => true
  | .int _ => true
  | .str _ => true
  | _ => false
def eqV : V → V → Bool
  | .non, .non => true
  | .bl a, .bl b => a == b
  | .bl a, .int b => (if a then 1 else 0) == b
  | .int a, .bl b => a == (if b then 1 else 0)
  | .int a, .int b => a == b
  | .str a, .str b => a == b
  | _, _ => false
theorem eqAt_V {A : Around} {s : Shared} {y x : V} {u v : Value} (ry : RelV y u) (rx : RelV x v) (fy : flatV y = true) (fx : flatV x = true) : SeqAt.EqAt A s u v (eqV y x) := by
  cases y with
  | non =>
    cases ry
    cases x with
    | non => cases rx; exact SeqAt.EqAt.same _
    | bl b => cases rx; exact SeqAt.EqAt.none_bool b
    | int b => obtain ⟨t, rfl⟩ := rx; exact SeqAt.EqAt.none_int b t
    | str b => obtain ⟨t, rfl⟩ := rx; exact SeqAt.EqAt.none_str b t
    | _ => exact absurd (show false = true from fx) Bool.false_ne_true
  | bl a =>
    cases ry
    cases x with
    | non => cases rx; exact SeqAt.EqAt.bool_none a
    | bl b => cases rx; exact SeqAt.EqAt.bool_bool a b
    | int b => obtain ⟨t, rfl⟩ := rx; exact SeqAt.EqAt.bool_int a b t
    | str b => obtain ⟨t, rfl⟩ := rx; exact SeqAt.EqAt.bool_str a b t
    | _ => exact absurd (show false = true from fx) Bool.false_ne_true
  | int a =>
    obtain ⟨t', rfl⟩ := ry
    cases x with
    | non => cases rx; exact SeqAt.EqAt.int_none a t'
    | bl b => cases rx; exact SeqAt.EqAt.int_bool a t' b
    | int b => obtain ⟨t, rfl⟩ := rx; exact SeqAt.EqAt.int_int a t' b t
    | str b => obtain ⟨t, rfl⟩ := rx; exact SeqAt.EqAt.int_str a t' b t
    | _ => exact absurd (show false = true from fx) Bool.false_ne_true
  | str a =>
    obtain ⟨t', rfl⟩ := ry
    cases x with
    | non => cases rx; exact SeqAt.EqAt.str_none a t'
    | bl b => cases rx; exact SeqAt.EqAt.str_bool a t' b
    | int b => obtain ⟨t, rfl⟩ := rx; exact SeqAt.EqAt.str_int a t' b t
    | str b => obtain ⟨t, rfl⟩ := rx; exact SeqAt.EqAt.str_str a t' b t
    | _ => exact absurd (show false = true from fx) Bool.false_ne_true
  | _ => exact absurd (show false = true from fy) Bool.false_ne_true
theorem call_len_seq : CallR X (.builtin "len") (fun xs H Q => ∃ p ys, xs = [.ref p] ∧ (SqL X.K H p ys ∨ SqT X.K H p ys) ∧ Q (.int ys.length) H) := by
  intro pins s σ H xs us Q I r h
  obtain ⟨p, ys, rfl, hq, q⟩ := h
  obtain ⟨u, rfl, rx⟩ := vals1 r
  cases rx
  have hn := line63
  rcases hq with hq | hq
  · obtain ⟨its, r', pl, hz⟩ := I.list hq
    have hlen := r'.length
    exact Calls.call_len_list pl.isList (by simp only [List.size_toArray] <;> omega) ⟨.int ys.length, H, I.tok _, ⟨s.toks + 1, by rw [List.size_toArray, hlen]⟩, q⟩
  · obtain ⟨its, r', pl, hz⟩ := I.tuple hq
    have hlen := r'.length
    exact len_tuple pl (by simp only [List.size_toArray] <;> omega) ⟨.int ys.length, H, I.tok _, ⟨s.toks + 1, by rw [List.size_toArray, hlen]⟩, q⟩
theorem CallR.or {f : Value} {r r' : List V → Hp → VK → Prop} (h : CallR X f r) (h' : CallR X f r') : CallR X f (fun xs H Q => r xs H Q ∨ r' xs H Q) := by
  intro pins s σ H xs us Q I rs q
  rcases q with q | q
  · exact h pins s σ H xs us Q I rs q
  · exact h' pins s σ H xs us Q I rs q
theorem call_list_of : CallR X (.type "list") (fun xs H Q => ∃ p ys, xs = [.ref p] ∧ (SqL X.K H p ys ∨ SqT X.K H p ys) ∧ ∀ l, H l = none → Q (.ref l) (upd H l (.lst ys))) := by
  intro pins s σ H xs us Q I r h
  obtain ⟨p, ys, rfl, hq, q⟩ := h
  obtain ⟨u, rfl, rx⟩ := vals1 r
  cases rx
  have fin : ∀ (its : List Value), Vals ys its → ys.length ≤ sizeLine → ∀ (h' : Heap) (c' : Nat), (∀ b o', s.heap.get? b = some o' → h'.get? b = some o') →
      h'.get? s.heap.objs.size = some { cls := .type "list", dict := none, data := .seq its.toArray c', slots := #[] } → EP X pins σ Q (.ref s.heap.objs.size) { s with heap := h' } := fun its r' hz h' c' kp e =>
    ⟨.ref s.heap.objs.size, _, I.laid (t' := s.toks) kp (Nat.le_refl _) (show ObjOk X.prog X.w _ h' _ (.lst ys) from ⟨hz, its, c', r', e⟩), rfl, q _ (I.hok.fresh (Nat.le_refl _))⟩
  rcases hq with hq | hq
  · obtain ⟨its, r', pl, hz⟩ := I.list hq
    have hlen := r'.length
    obtain ⟨o, ho, hc, n, hd⟩ := pl.isList
    exact call_list_seq p (.inl rfl) ho hc hd (fun h' c' kp e => fin its r' hz h' c' kp e) (by simp only [List.size_toArray] <;> omega)
  · obtain ⟨its, r', pl, hz⟩ := I.tuple hq
    have hlen := r'.length
    obtain ⟨o, ho, hc, n, hd⟩ := pl
    exact call_list_seq p (.inr rfl) ho hc hd (fun h' c' kp e => fin its r' hz h' c' kp e) (by simp only [List.size_toArray] <;> omega)
theorem call_tuple_of : CallR X (.type "tuple") (fun xs H Q => ∃ p ys, xs = [.ref p] ∧ ((SqL X.K H p ys ∧ ∀ l, H l = none → Q (.ref l) (upd H l (.tup ys))) ∨ (SqT X.K H p ys ∧ Q (.ref p) H))) := by
  intro pins s σ H xs us Q I r h
  obtain ⟨p, ys, rfl, h⟩ := h
  obtain ⟨u, rfl, rx⟩ := vals1 r
  cases rx
  rcases h with ⟨hq, q⟩ | ⟨hq, q⟩
  · obtain ⟨its, r', pl, hz⟩ := I.list hq
    have hlen := r'.length
    refine call_tuple_list pl.isList (fun h' kp => ?_) (by simp only [List.size_toArray] <;> omega)
    have I1 : Inv X pins σ H { s with heap := h' } := I.kept (t' := s.toks) kp
    have I2 : Inv X pins σ (upd H h'.objs.size (.tup ys)) { s with heap := h'.push { cls := .type "tuple", data := .seq its.toArray } } :=
      I1.laid (t' := s.toks) (fun b o e => Heap.get?_push_of_some _ e) (Nat.le_refl _) (show ObjOk X.prog X.w _ _ _ (.tup ys) from ⟨hz, its, r', IsTup.new _ _⟩)
    exact ⟨.ref h'.objs.size, _, I2, rfl, q _ (I1.hok.fresh (Nat.le_refl _))⟩
  · obtain ⟨its, r', pl, hz⟩ := I.tuple hq
    exact call_tuple_same pl ⟨.ref p, H, I, rfl, q⟩
def tyV (K : PySem.W.Frag) (T : String) (x : V) (H : Hp) : Prop := match x with
  | .str _ => T = "str"
  | .int _ => T = "int"
  | .ref p => (T = "list" ∧ ∃ xs, SqL K H p xs) ∨ (T = "tuple" ∧ ∃ o, K.lookup p = some o ∧ o.cls = .type "tuple" ∧ o.dict = none) ∨
      (T = "dict" ∧ ((∃ kvs, H p = some (.dK kvs)) ∨ ∃ kvs, H p = some (.dT kvs))) ∨ (T = "set" ∧ ∃ S n, H p = some (.set S n))
  | _ => False
theorem tyV_is {pins : List (Addr × Obj)} {σ : St} {H : Hp} {s : Shared} {T : String} {x : V} {v : Value} (I : Inv X pins σ H s) (r : RelV x v) (ty : tyV X.K T x H) :
    s.TypeIs v T ∧ ∀ a, v = .ref a → ∃ ob, s.heap.get? a = some ob ∧ ob.dict = none := by
  cases x with
  | str z =>
    obtain ⟨t, rfl⟩ := r
    cases (show T = "str" from ty)
    exact ⟨typeIs_str s z t, fun _ e => nomatch e⟩
  | int i =>
    obtain ⟨t, rfl⟩ := r
    cases (show T = "int" from ty)
    exact ⟨typeIs_int s i t, fun _ e => nomatch e⟩
  | ref p =>
    cases r
    rcases ty with ⟨rfl, xs, hq⟩ | ⟨rfl, o, hk, hc, hd⟩ | ⟨rfl, hk⟩ | ⟨rfl, S, n, hk⟩
    · obtain ⟨its, _, pl, _⟩ := I.list hq
      refine ⟨pl.isList.typeIs, fun a e => ?_⟩
      cases e
      obtain ⟨o, n, e, c, hd, _⟩ := pl
      exact ⟨o, e, hd⟩
    · refine ⟨⟨o, I.kIn p o hk, hc⟩, fun a e => ?_⟩
      cases e
      exact ⟨o, I.kIn _ o hk, hd⟩
    · have z : ∃ o, s.heap.get? p = some o ∧ o.ExactDict := by
        rcases hk with ⟨kvs, hk⟩ | ⟨kvs, hk⟩
        · obtain ⟨_, _, _, _, o, _, _, e, ex, _⟩ := I.hok p _ hk
          exact ⟨o, e, ex⟩
        · obtain ⟨_, _, _, _, o, _, _, e, ex, _⟩ := I.hok p _ hk
          exact ⟨o, e, ex⟩
      obtain ⟨o, e, ex⟩ := z
      refine ⟨⟨o, e, ex.1⟩, fun a e2 => ?_⟩
      cases e2
      exact ⟨o, e, ex.2.1⟩
    · obtain ⟨o, _, _, _, e, ex, _⟩ := I.hok p _ hk
      refine ⟨⟨o, e, ex.1⟩, fun a e2 => ?_⟩
      cases e2
      exact ⟨o, e, ex.2.1⟩
  | _ => exact False.elim ty
def tBM (K : PySem.W.Frag) (T : String) (r : V → List V → Hp → VK → Prop) (to : TE) (t : TA) : TE := fun σ H Q => to σ H fun x H1 => tyV K T x H1 ∧ t σ H1 fun xs H2 => r x xs H2 Q
variable {o e : Expr} {es : List Expr} {to : TE} {t : TA} {name : Str} {apos cpos : Pos} {T id : String} {r : V → List V → Hp → VK → Prop}
theorem pe_bm (pa : PlainAttrs T) (slot : Slot T name id) (hty : typeOf (.builtin id) = pure (.type "method_descriptor")) (hm : MtR X id r) (ho : PE X o to) (ha : PA X (e :: es) t)
    (hbase : attributeBase o name X.env (eval o X.env) = eval o X.env := by rfl)
    (hfew : ((backTo cpos (starEach (e :: es) X.env)).all (fun x => !x.1) && (backToKw cpos (keywordEach [] X.env)).all (fun x => x.1.isSome)
      && decide ((e :: es).length + ([] : List Keyword).length + (if ([] : List Keyword).isEmpty then 0 else 1) < 30)) = true := by rfl)
    (hline : (apos.endLine == cpos.line) = true := by rfl) (hs : starEach (e :: es) X.env = (false, eval e X.env) :: starEach es X.env := by rfl) (hplain : (backTo cpos (starEach es X.env)).any (·.1) = false := by rfl) :
    PE X (.Call (.Attribute o name apos) (e :: es) [] cpos) (tBM X.K T r to t) := by
  intro pins s σ H Q I h
  refine wpAny_Call_method_late hbase hfew hline rfl (thn (ho pins s σ H _ I h) fun v s1 ⟨x, H1, I1, r1, ty, q1⟩ => ?_)
  obtain ⟨h1, h2⟩ := tyV_is I1 r1 ty
  refine ⟨T, id, pa, slot, hty, h1, h2, ?_⟩
  have hA := ha cpos pins s1 σ H1 _ I1 q1
  rw [hs] at hA ⊢
  refine Calls.callWith_builtin (by show (false || (backTo cpos (starEach es X.env)).any (·.1)) = false; rw [hplain] <;> rfl) (Calls.evalArgs_plain ?_)
  exact thn hA fun us s2 ⟨vs, H2, I2, r2, q2⟩ => hm pins s2 σ H2 x vs v us Q I2 r1 r2 q2
/- xs.append(e), list.index on a module's tuple .. are MtR facts of 06m -/
end
end L2
namespace L2
open PySem PySem.Spec PyProof.Rows
def MtM (X : Cx) (id : String) (r : V → List V → Hp → VK → Prop) : Prop :=
  ∀ (pins : List (Addr × Obj)) (s : Shared) (σ : St) (H : Hp) (x : V) (xs : List V) (v : Value) (us : List Value) (Q : VK), Inv X pins σ H s → RelV x v → Vals xs us → r x xs H Q →
    wpAny (model X.prog X.w) X.A (call (.builtin id) (v :: us)) (EP X pins σ Q) X.xe s
theorem Vals.one : ∀ {x : V} {us : List Value}, Vals [x] us → ∃ u, us = [u] ∧ RelV x u
  | _, _, .cons r .nil => ⟨_, rfl, r⟩
theorem Vals.two : ∀ {x y : V} {us : List Value}, Vals [x, y] us → ∃ u v, us = [u, v] ∧ RelV x u ∧ RelV y v
  | _, _, _, .cons r (.cons q .nil) => ⟨_, _, rfl, r, q⟩
section
variable {X : Cx} {pins : List (Addr × Obj)} {σ : St} {H : Hp} {s : Shared} {l b : Addr} {xs ys zs : List V}
theorem Inv.lset {its its' : List Value} {n : Nat} {f : Array Value → Array Value} {t' : Nat} (I : Inv X pins σ H s) (hH : H l = some (.lst xs))
    (e : s.heap.get? l = some { cls := .type "list", data := .seq its.toArray n }) (hf : f its.toArray = its'.toArray) (hv : Vals ys its') (hz : ys.length ≤ sizeLine) :
    Inv X pins σ (upd H l (.lst ys)) { s with heap := s.heap.update l (Obj.mapSeq f), toks := t' } := by
  have q := PySem.IsL.update e f
  rw [hf] at q
  refine I.write (x := l) (e := l) (by rw [hH]; exact trivial) (.inl rfl) (fun b' u hb hu => (Heap.get?_update_other s.heap (Obj.mapSeq f) (Ne.symm hb)).trans hu) ⟨_, q⟩ ?_
  exact ⟨hz, its', _, hv, q⟩
theorem Inv.lnew {its : List Value} {t' : Nat} (I : Inv X pins σ H s) (hv : Vals ys its) (hz : ys.length ≤ sizeLine) :
    Inv X pins σ (upd H s.heap.objs.size (.lst ys)) { s with heap := s.heap.push { cls := .type "list", data := .seq its.toArray }, toks := t' } :=
  I.laid (fun _ _ q => Heap.get?_push_of_some _ q) (Nat.le_refl _) ⟨hz, its, 0, hv, Heap.get?_push_size _ rfl⟩
theorem Inv.fresh (I : Inv X pins σ H s) : H s.heap.objs.size = none := I.hok.fresh (Nat.le_refl _)
theorem Inv.lstM (I : Inv X pins σ H s) (hH : H l = some (.lst xs)) : xs.length ≤ sizeLine ∧ ∃ (its : List Value) (n : Nat), Vals xs its ∧ xs.length = its.length ∧ s.heap.get? l = some { cls := .type "list", data := .seq its.toArray n } := by
  obtain ⟨z, its, n, r, e⟩ := I.hok l _ hH
  exact ⟨z, its, n, r, r.length, e⟩
theorem notLongL {n : Nat} (h : n ≤ sizeLine) : Builtin.List.listTooLong n = false := by
  unfold Builtin.List.listTooLong
  exact decide_eq_false (by omega)
end
section
variable {X : Cx}
def rAppend : V → List V → Hp → VK → Prop := fun x vs H Q => ∃ l xs y, x = .ref l ∧ vs = [y] ∧ H l = some (.lst xs) ∧ xs.length < sizeLine ∧ Q .non (upd H l (.lst (xs ++ [y])))
theorem mt_append : MtM X "list.append" rAppend := by
  intro pins s σ H x vs v us Q I rx rv h
  obtain ⟨l, xs, y, rfl, rfl, hH, hz, q⟩ := h
  cases rx
  obtain ⟨u, rfl, ru⟩ := rv.one
  obtain ⟨z, its, n, r, hl, e⟩ := I.lstM hH
  refine call_meets F.slot_list_append ⟨_, e, rfl⟩ F.entry_list_append (F.args_list_append_2 _ _) (PySem.list_append l its.toArray n u (by rw [List.size_toArray]; omega)) ⟨e, ?_⟩
  refine ⟨.non, _, I.lset (its' := its ++ [u]) hH e (by simp) (r.append (.cons ru .nil)) ?_, rfl, q⟩
  rw [List.length_append, List.length_singleton]
  omega
def rCat : R2 := fun x y H Q => ∃ l b xs zs, x = .ref l ∧ y = .ref b ∧ H l = some (.lst xs) ∧ H b = some (.lst zs) ∧ xs.length + zs.length ≤ sizeLine ∧ ∀ p, H p = none → Q (.ref p) (upd H p (.lst (xs ++ zs)))
theorem op_cat : OpR X (binaryOp .Add) rCat := by
  intro pins s σ H x y v u Q I rx ry h
  obtain ⟨l, b, xs, zs, rfl, rfl, hH, hB, hz, q⟩ := h
  cases rx
  cases ry
  obtain ⟨z, its, n, r, hl, e⟩ := I.lstM hH
  obtain ⟨z2, its2, n2, r2, hl2, e2⟩ := I.lstM hB
  refine PySem.P.add_list e e2 ?_ (by rw [List.size_toArray, List.size_toArray]; omega)
  have ea : its.toArray ++ its2.toArray = (its ++ its2).toArray := by simp
  rw [ea]
  exact ⟨.ref _, _, I.lnew (t' := s.toks) (r.append r2) (by rw [List.length_append]; omega), rfl, q _ I.fresh⟩
end
section
variable {prog : Program} {w : World} {A : Around} {E : Value → Shared → Prop} {s : Shared}
set_option maxRecDepth 100000 in
end
section
variable {X : Cx}
end
end L2
namespace Att
open PySem PySem.W PySem.Calls PyProof.Rows
theorem ints_of_wellAll {P : Params} {h : Heap} : ∀ (ns : List Int) (vs : List Value), WellAll P h vs (ns.map WData.int) → IntsAre vs ns := by
  intro ns
  induction ns with
  | nil =>
    intro vs w
    rw [List.map_nil] at w
    cases w
    exact .nil
  | cons n ns ih =>
    intro vs w
    rw [List.map_cons] at w
    cases w with
    | cons a b =>
      cases a
      exact .cons _ _ (ih _ b)
theorem script_of {l : OpenLaw} {n : Nat} (hn : l.most = some n) {P : Params} {h : Heap} {args : List WData} {vals : List Value}
    (hpre : l.row.toRowW.claim.pre args = true) (hwl : WellAll P h vals args) :
    ∃ a vs ns, vals = [Value.ref a] ∧ args = [WData.list (ns.map WData.int)] ∧ h.get? a = some { cls := .type "list", data := .seq vs.toArray } ∧ IntsAre vs ns ∧ ns.length ≤ n := by
  have hsh : WShape.hasAll [] args [.list .int] = true := (pre_splitW hpre).1
  have hc : l.pre.holds [] { args := args } = true := (pre_splitW hpre).2
  obtain ⟨d, r, rfl, h1, h2⟩ := hasAllW_cons hsh
  obtain rfl := hasAllW_nil h2
  obtain ⟨xs, rfl, h3⟩ := hasW_list h1
  obtain ⟨ns, rfl⟩ := items_int h3
  have hlen : ns.length ≤ n := by
    unfold OpenLaw.pre at hc
    have h4 : (WTm.not (.lt (.lit (.int (n : Int))) (.len (.arg 0)))).holds [] { args := [.list (ns.map .int)] } = true := by
      have h4 := (holds_andW hc).1
      rw [hn] at h4
      exact h4
    have h5 := condW_of h4 (w_not (w_lt w_lit (w_len_list (w_arg rfl))))
    rw [List.length_map] at h5
    refine Nat.le_of_not_lt fun q => ?_
    have q' : (n : Int) < ((ns.length : Nat) : Int) := by omega
    first
      | (rw [decide_eq_true q'] at h5; exact absurd h5 (by decide))
      | (simp at h5; omega)
  cases hwl with
  | cons w1 w2 =>
    cases w2
    cases w1 with
    | list ho hall => exact ⟨_, _, ns, rfl, rfl, ho, ints_of_wellAll ns _ hall, hlen⟩
theorem post_true (l : OpenLaw) (args : List WData) : l.row.toRowW.claim.post args (.bool true) args = true :=
  postW_of (r := l.row.toRowW) (X := (true == true))
    (show WShape.has [] (.bool true) .bool = true by first | rfl | decide | simp [WShape.has, WShape.arms, WShape.armsAll])
    (show (WTm.eq .res (.lit (.bool true))).value [] { args := args, res := some (.bool true), after := args } = some (.bool (true == true)) from w_eq_bool (w_res rfl) w_lit) rfl
theorem attach_call {l : OpenLaw} {n : Nat} {q : Program} {loose : List Str} {XP : (Str → Option Value) → Heap → Prop} {YP : World → Heap → Prop} {d : DefRec}
    (hn : l.most = some n) (hdf : d.params.defaults = [])
    (call : ∀ (w : World) (s₀ s₁ : Shared) (mg mb : Str → Option Value) (fa : Addr) (o : Obj) (pm cd doc : Value) (a : Addr) (vs : List Value) (ns : List Int),
      Ground q loose [] XP w s₀ mg mb s₁.heap → YP w s₁.heap →
      s₁.heap.get? fa = some o → o.data = .func (docDef d.name d.params d.body d.scope pm cd doc) → s₁.heap.CodeRec cd d.name → mg d.name = some (.ref fa) →
      s₁.heap.get? a = some { cls := .type "list", data := .seq vs.toArray } → IntsAre vs ns → ns.length ≤ n → s₁.gens = #[] →
      codeAny (model l.prog w) callerA (.call (.ref fa) ⟨[.ref a], []⟩) (fun r s' => r = .ok (.ret (.bool true)) ∧ OldK s₁.heap s'.heap ∧ s'.os = s₁.os ∧ AllBare s'.gens) s₁) :
    WalkO q loose XP YP l.row.toRowW d [] (fun f vs => PySem.call f vs) := by
  intro w s₀ s₁ mg mb G Y fa o pm cd doc dV kV ho hd hcd hD hmg hg args vals as hpre hlay hrd hwl hlo
  obtain rfl : dV = .none := Dflts.none hD hdf
  obtain rfl : kV = .none := Dflts.noKw hD
  obtain ⟨a, vs, ns, rfl, rfl, hobj, hints, hlen⟩ := script_of hn hpre hwl
  refine enter_call (codeAny_mono (call w s₀ s₁ mg mb fa o pm cd doc a vs ns G Y ho (fd_plain hd) hcd hmg hobj hints hlen hg) fun r s' hq => ?_)
  obtain ⟨rfl, h2, h3, h4⟩ := hq
  exact ⟨.inl ⟨.bool true, .bool true, [], rfl, fun _ => rfl, .bool true, post_true l _, fun _ => ⟨List.Pairwise.nil, fun _ hm => (nomatch hm)⟩⟩, h2, h3, h4⟩
section
variable {prog : Program} {w : World} {A : Around} {E : Value → Shared → Prop} {s : Shared} {K : Frag}
def ledger (h : Heap) (L d : Addr) : List (Addr × Obj) := (List.range h.objs.size).filterMap fun a => if a = L ∨ a = d then none else (h.get? a).map fun o => (a, o)
end
end Att
namespace L2
open PySem PySem.Spec PyProof.Rows
theorem vals_ints : ∀ {vs : List Value} {ns : List Int}, IntsAre vs ns → Vals (ns.map V.int) vs
  | _, _, .nil => .nil
  | _, _, .cons n t h => .cons ⟨t, rfl⟩ (vals_ints h)
def Only (H : Hp) : Prop := ∀ b, H b = none ∨ ∃ o xs, H b = some (.frz o (.lst xs))
theorem law_call {P : Program} {w : World} {K : PySem.W.Frag} {mg mb : Str → Option Value} {CX : CXT} {k : Nat} {fa a : Addr} {fd : FuncData} {x : Str} {sp : Sp} {s₁ : Shared} {vs : List Value} {ns : List Int}
    (KX : K.In s₁.heap) (hns : s₁.heap.Ns mainGlobals mg) (hb : s₁.heap.Ns builtinsNs mb) (hbb : ∀ x : Str, x ≠ "__name__" → mb x = bootBuiltins x) (hlim : s₁.heap.NoLimit) (hg : s₁.gens = #[])
    (ha : s₁.heap.get? a = some { cls := .type "list", data := .seq vs.toArray }) (hi : IntsAre vs ns) (hl : ns.length ≤ sizeLine) (hr : Room k callerA)
    (F : ∀ base : Heap, K.In base → base.Ns mainGlobals mg → FnOk P w K mg base CX k fa fd [x] sp) (hbind : ∀ (s : Shared) (u : Value), BindsTo s fd ⟨[u], []⟩ [(x, u)])
    (hsp : ∀ H : Hp, Only H → SqL K H a (ns.map V.int) → sp [.ref a] H (fun v _ => v = .bl true) fun _ _ _ => False)
    (hCX : ∀ H e s', CX [] H s₁ (fun _ _ _ => False) e s' → False) :
    codeAny (model P w) callerA (.call (.ref fa) ⟨[.ref a], []⟩) (fun r s' => r = .ok (.ret (.bool true)) ∧ OldK s₁.heap s'.heap ∧ s'.os = s₁.os ∧ AllBare s'.gens) s₁ := by
  have rv := vals_ints hi
  have lenV := hi.length
  -- from an abstract heap in which nothing but the script may be tracked
  have core : ∀ H : Hp, Only H → SqL K H a (ns.map V.int) → HOk P w H s₁.heap → (∀ b, H b ≠ none → b = a) → (H a ≠ none → K.lookup a = none) →
      codeAny (model P w) callerA (.call (.ref fa) ⟨[.ref a], []⟩) (fun r s' => r = .ok (.ret (.bool true)) ∧ OldK s₁.heap s'.heap ∧ s'.os = s₁.os ∧ AllBare s'.gens) s₁ := by
    intro H hO hS hok hA hK
    have base_of : ∀ {b : Addr} {o : Obj}, s₁.heap.get? b = some o → H b = none → (hidT s₁.heap H).get? b = some o := fun e n => hidT_get e n
    have noA : ∀ {b : Addr} {o : Obj} {es : Array DictEntry} {ep : Nat}, s₁.heap.get? b = some o → o.data = .dict es ep → H b = none := fun {b o es ep} e d => by
      cases q : H b with
      | none => rfl
      | some u =>
        have e' : b = a := hA b (by rw [q]; simp)
        subst e'
        rw [ha] at e; cases e
        have d' : Data.seq vs.toArray _ = Data.dict es ep := d
        cases d'
    have nsK : ∀ {b : Addr} {m : Str → Option Value}, s₁.heap.Ns b m → (hidT s₁.heap H).Ns b m := fun {b m} ⟨o, es, ep, e, d, r⟩ => ⟨o, es, ep, base_of e (noA e d), d, r⟩
    have hKb : K.In (hidT s₁.heap H) := fun b o e => base_of (KX b o e) (by
      cases q : H b with
      | none => rfl
      | some u =>
        have e' : b = a := hA b (by rw [q]; simp)
        subst e'
        rw [hK (by rw [q]; simp)] at e; cases e)
    have hM : Mod K mg (hidT s₁.heap H) := ⟨hKb, nsK hns, ⟨mb, nsK hb, hbb⟩, let ⟨mc, h1, h2⟩ := hlim; ⟨mc, nsK h1, h2⟩⟩
    have e0 : Env0 P w K mg (hidT s₁.heap H) callerA [] s₁ H := ⟨rfl, hM, fun b o e => of_hidT e, Nat.le_of_eq (hidT_size _ _), trivial, fun b hb => absurd (show b ∈ ([] : List Addr) from hb) (by simp), hok, .of_eq hg⟩
    refine codeAny_mono ((F _ hKb (nsK hns)).run callerA [] s₁ H ⟨[.ref a], []⟩ [.ref a] [.ref a] _ _ hr e0 (hbind s₁ (.ref a)) (.cons rfl .nil) (hsp H hO hS)) fun r s' h => ?_
    cases r with
    | error e => exact (hCX H e s' h).elim
    | ok fl =>
      cases fl with
      | next => exact False.elim h
      | brk => exact False.elim h
      | cont => exact False.elim h
      | ret u =>
        obtain ⟨v, H', os, bare, un, hok', r', q⟩ := h
        have q' : v = .bl true := q
        subst q'
        obtain rfl : u = Value.bool true := r'
        refine ⟨rfl, OldK.of_keep fun b o e => ?_, os, bare⟩
        cases q : H b with
        | none => exact un.keep b o e q (by intro z; exact absurd (show b ∈ ([] : List Addr) from z) (by simp)) (by simp)
        | some u =>
          rcases hO b with z | ⟨ob, xs, z⟩
          · rw [q] at z; cases z
          · have z2 := un.frzs b ob _ z
            obtain ⟨e1, _⟩ := hok b _ z
            obtain ⟨e2, _⟩ := hok' b _ z2
            rw [e] at e1; cases e1
            exact e2
  cases hk : K.lookup a with
  | some o =>
    -- the script is one of the module's own objects
    have e := KX a o hk
    rw [ha] at e
    cases e
    refine core (fun _ => none) (fun _ => .inl rfl) (.inr ⟨_, vs.toArray, _, hk, rfl, rfl, rfl, by rw [List.size_toArray, lenV]; exact hl, by simpa using rv⟩) (fun b u z => by have z' : (none : Option HO) = some u := z; cases z') (fun b z => absurd rfl z) fun z => absurd rfl z
  | none =>
    refine core (fun b => if b = a then some (.frz { cls := .type "list", data := .seq vs.toArray } (.lst (ns.map V.int))) else none) (fun b => ?_) (.inl (.inr ⟨{ cls := .type "list", data := .seq vs.toArray }, if_pos rfl⟩)) (fun b u z => ?_) (fun b z => ?_) fun _ => hk
    · by_cases hb : b = a
      · exact .inr ⟨_, _, if_pos hb⟩
      · exact .inl (if_neg hb)
    · by_cases hb : b = a
      · have z' := (if_pos hb).symm.trans z
        cases z'
        subst hb
        exact ⟨ha, by rw [List.length_map]; exact hl, vs, _, rv, ha⟩
      · have z' := (if_neg hb).symm.trans z
        cases z'
    · by_cases hb : b = a
      · exact hb
      · exact absurd (if_neg hb) z
end L2
namespace L2
open PySem PySem.Spec PyProof.Rows
abbrev KOf {K : PySem.W.Frag} {h : Heap} (_ : K.In h) : PySem.W.Frag := K
theorem walk_of {l : PySem.W.OpenLaw} {n k : Nat} {q : Program} {loose : List Str} {XP : (Str → Option Value) → Heap → Prop} {YP : World → Heap → Prop} {d : DefRec} {K : Params → PySem.W.Frag} {CX : World → CXT} {sp : World → Sp} {x : Str}
    (hn : l.most = some n) (hn2 : n ≤ sizeLine) (hdf : d.params.defaults = []) (hr : Room k callerA)
    (hY : ∀ (w : World) (h : Heap), YP w h → (K w.params).In h)
    (F : ∀ (w : World) (mg : Str → Option Value) (fa : Addr) (h : Heap), (K w.params).In h → h.Ns mainGlobals mg → mg d.name = some (.ref fa) →
      ∃ fd : FuncData, (∀ (s : Shared) (u : Value), BindsTo s fd ⟨[u], []⟩ [(x, u)]) ∧
        ∀ base : Heap, (K w.params).In base → base.Ns mainGlobals mg → FnOk l.prog w (K w.params) mg base (CX w) k fa fd [x] (sp w))
    (hsp : ∀ (w : World) (H : Hp) (a : Addr) (ns : List Int), ns.length ≤ n → Only H → SqL (K w.params) H a (ns.map V.int) → sp w [.ref a] H (fun v _ => v = .bl true) fun _ _ _ => False)
    (hCX : ∀ (w : World) (H : Hp) (s : Shared) (e : Value) (s' : Shared), CX w [] H s (fun _ _ _ => False) e s' → False) :
    PySem.W.WalkO q loose XP YP l.row.toRowW d [] (fun f vs => PySem.call f vs) := by
  refine Att.attach_call hn hdf fun w s₀ s₁ mg mb fa o pm cd doc a vs ns G Y ho hd hcd hmg hobj hints hlen hg => ?_
  have KX := hY w _ Y
  obtain ⟨fd, hb, hF⟩ := F w mg fa _ KX G.T.g hmg
  exact law_call KX G.T.g G.T.b G.T.builtins G.T.nolimit hg hobj hints (Nat.le_trans hlen hn2) hr hF hb (fun H hO hS => hsp w H a ns hlen hO hS) fun H e s' => hCX w H s₁ e s'
end L2
/- THE LAST THEOREM (shape; LID, My.* are yours):
   My.Adr: a structure of the addresses that your layer names (classes, functions); My.Txt K t: a structure (Prop) of the equations over K;
   My.txt_mk : {K} {implicit addresses ..} (e1 : nsIn K mainGlobals "law" = some (some (.ref f))) (e2 : K.lookup f = some ⟨oc, od, .func (fnOf "law" "law" params body scope dV kV doc pm an cdv ct), sl⟩) (e3 : codeIn K cdv "law" = true) .. : ∃ t, My.Txt K t
set_option maxRecDepth 100000 in
set_option maxHeartbeats 0 in
theorem PySem.Challenge.cw_LID_holds : PySem.Challenge.rw_LID.Holds := by
  w_on; o_law; k_head; (case hw => w_witness2)
  k_fill
  refine L2.walk_of (l := PySem.Challenge.rw_LID) (n := 63) (k := 40) (x := "script") (CX := fun w => ..) (sp := fun _ => My.sp_law) rfl (by decide) rfl ⟨rfl, by decide, by decide⟩ (fun w h Y => PySem.W.kIn_of Y) ?F ?S ?C
  case F =>
    intro w mg fa h KX G hmg
    have T : ∃ t, My.Txt (L2.KOf KX) t := by
      dsimp only [L2.KOf]                          -- K must stand as «<heap const> w.params» for k_is
      refine' My.txt_mk ?e1 ?e2 ?e3 ..
      (case e1 => PySem.W.k_is)                    -- in the order: a name -> its address -> its object -> its parts
      (case e2 => PySem.W.k_is)
      ..
    obtain ⟨t, T⟩ := T
    have e0 := hmg.symm.trans (PySem.W.mg_of KX G T.law)
    cases e0                                       -- fa is the law's own address
    exact ⟨_, fun s u => .of_eq rfl, fun base kb nb => My.law_fn T kb nb⟩     -- if «.of_eq rfl» comes too early: refine' ⟨_, ?b, fun base kb nb => My.law_fn T kb nb⟩; exact fun s u => .of_eq rfl
  case S => exact fun w H a ns hl hO hS => ..
  case C => exact ..
(the tactic k_is has no namespace: write k_is) -/
namespace L2
open PySem PySem.Spec PyProof.Rows
def defArgs (s : Stmt) : Arguments := match s with
  | .FunctionDef _ a _ _ _ _ _ _ _ _ => a
  | _ => { posonlyargs := [], args := [], vararg := none, kwonlyargs := [], kw_defaults := [], kwarg := none, defaults := [] }
def defBody (s : Stmt) : List Stmt := match s with
  | .FunctionDef _ _ b _ _ _ _ _ _ _ => b
  | _ => []
def defScope (s : Stmt) : Scope := match s with
  | .FunctionDef _ _ _ _ _ _ sc _ _ _ => sc
  | _ => { kind := .function, names := [], isGenerator := false, isCoroutine := false }
abbrev CX0 : CXT := fun _ _ _ _ _ _ => False
abbrev E0 : XK := fun _ _ _ => False
theorem pass0 {X : Cx} : Passes CX0 X E0 := fun _ _ _ _ _ _ _ h => h.elim
structure Fun (K : PySem.W.Frag) (x qual : Str) (st : Stmt) (f : Addr) (fd : FuncData) : Prop where
  ex : ∃ (oc : Value) (od : Option Addr) (kV doc pm : Value) (an : Option Addr) (cdv ct : Value) (osl : Array (Option Value)),
    fd = PySem.W.fnOf x qual (defArgs st) (defBody st) (defScope st) .none kV doc pm an cdv ct ∧ K.lookup f = some ⟨oc, od, .func fd, osl⟩ ∧ PySem.W.codeIn K cdv qual = true
  kp : PySem.W.keepIn K (.ref f) = true
section
variable {P : Program} {w : World} {K : PySem.W.Frag} {mg : Str → Option Value} {base : Heap}
theorem Fun.ok {x qual : Str} {st : Stmt} {f : Addr} {fd : FuncData} {N ps : List Str} {k : Nat} {sp : Sp} (F : Fun K x qual st f fd) (S : FnScope N ps (defScope st)) (len : ∀ vs H Q E, sp vs H Q E → vs.length = ps.length)
    (hbody : ∀ (cdv : Value) (A : Around) (outer : List Env) (s : Shared) (H : Hp) (vs : List V) (Q : VK) (E : XK), Room k (A.deeper (envOfC qual (defScope st) s.heap.objs.size f cdv)) → sp vs H Q E →
      ∃ t, PSs (cxOf CX0 P w K mg base N qual (defScope st) f cdv A outer s H E).nox (defBody st) t ∧ t { nx := fun _ H' => Q .non H', rt := Q } (start N vs) H) : FnOk P w K mg base CX0 (k + 1) f fd ps sp := by
  obtain ⟨oc, od, kV, doc, pm, an, cdv, ct, osl, rfl, lk, hcd⟩ := F.ex
  refine fn_of lk hcd S len fun A outer s H vs Q E hr hsp => ?_
  obtain ⟨t, h, q⟩ := hbody cdv A outer s H vs Q E hr hsp
  exact ⟨t, h.nox, q⟩
theorem Fun.binds {x qual : Str} {st : Stmt} {f : Addr} {fd : FuncData} {ps : List Str} (F : Fun K x qual st f fd)
    (h : ∀ (kV doc pm : Value) (an : Option Addr) (cdv ct : Value) (us : List Value), us.length = ps.length → bindArgs (PySem.W.fnOf x qual (defArgs st) (defBody st) (defScope st) .none kV doc pm an cdv ct) ⟨us, []⟩ = pure (ps.zip us)) : Binds K fd ps [] := by
  obtain ⟨oc, od, kV, doc, pm, an, cdv, ct, osl, rfl, lk, hcd⟩ := F.ex
  exact .all (h kV doc pm an cdv ct)
theorem fun_mk {x qual : Str} {st : Stmt} {f : Addr} {oc : Value} {od an : Option Addr} {osl : Array (Option Value)} {kV doc pm cdv ct : Value} (l : K.lookup f = some ⟨oc, od, .func (PySem.W.fnOf x qual (defArgs st) (defBody st) (defScope st) .none kV doc pm an cdv ct), osl⟩)
    (c : PySem.W.codeIn K cdv qual = true) (k : PySem.W.keepIn K (.ref f) = true) : Fun K x qual st f (PySem.W.fnOf x qual (defArgs st) (defBody st) (defScope st) .none kV doc pm an cdv ct) := ⟨⟨oc, od, kV, doc, pm, an, cdv, ct, osl, rfl, l, c⟩, k⟩
end
theorem small1000 {n : Nat} (h : n ≤ 1000) : n < sizeLine := Nat.lt_of_le_of_lt h (by decide)
section
variable {X : Cx}
end
def Same (H H' : Hp) : Prop := ∀ b o, H b = some o → H' b = some o
theorem Same.free {H H' : Hp} (e : Same H H') {l : Addr} (h : H' l = Option.none) : H l = Option.none := by
  cases q : H l with
  | none => rfl
  | some o =>
    rw [e l o q] at h
    cases h
theorem Same.seq {K : PySem.W.Frag} {H H' : Hp} {a : Addr} {xs : List V} (e : Same H H') (h : SqL K H a xs) : SqL K H' a xs := by
  rcases h with (h | ⟨o, h⟩) | h
  · exact .inl (.inl (e _ _ h))
  · exact .inl (.inr ⟨o, e _ _ h⟩)
  · exact .inr h
end L2
set_option maxHeartbeats 1000000
namespace TF
open PySem PySem.Spec L2
open PyProof.Rows hiding St RelV
inductive Dat where
  | non | bl (b : Bool) | int (i : Int) | str (x : Str) | fn (a : Addr) | scr (ns : List Int) | tup (l : List Dat) | lst (l : List Dat)
mutual
def Rep (K : PySem.W.Frag) (H : Hp) : Dat → V → Prop
  | .non, v => v = .non
  | .bl b, v => v = .bl b
  | .int i, v => v = .int i
  | .str x, v => v = .str x
  | .fn a, v => v = .ref a
  | .scr ns, v => ∃ a, v = .ref a ∧ SqL K H a (ns.map V.int)
  | .tup l, v => ∃ a vs, v = .ref a ∧ SqT K H a vs ∧ RepL K H l vs
  | .lst l, v => ∃ a vs, v = .ref a ∧ H a = some (.lst vs) ∧ RepL K H l vs
def RepL (K : PySem.W.Frag) (H : Hp) : List Dat → List V → Prop
  | [], vs => vs = []
  | d :: ds, vs => ∃ v r, vs = v :: r ∧ Rep K H d v ∧ RepL K H ds r
end
theorem sqT_same {K : PySem.W.Frag} {H H' : Hp} {a : Addr} {xs : List V} (e : Same H H') (h : SqT K H a xs) : SqT K H' a xs := by
  rcases h with (h | ⟨o, h⟩) | h
  · exact .inl (.inl (e _ _ h))
  · exact .inl (.inr ⟨o, e _ _ h⟩)
  · exact .inr h
mutual
theorem Rep.same {K : PySem.W.Frag} {H H' : Hp} (e : Same H H') : ∀ {d : Dat} {v : V}, Rep K H d v → Rep K H' d v
  | .non, _, h => by simpa [Rep] using h
  | .bl _, _, h => by simpa [Rep] using h
  | .int _, _, h => by simpa [Rep] using h
  | .str _, _, h => by simpa [Rep] using h
  | .fn _, _, h => by simpa [Rep] using h
  | .scr _, _, h => by
    obtain ⟨a, h1, h2⟩ := (by simpa [Rep] using h : ∃ a, _ = V.ref a ∧ SqL K H a _)
    rw [Rep]; exact ⟨a, h1, e.seq h2⟩
  | .tup _, _, h => by
    rw [Rep] at h ⊢
    obtain ⟨a, vs, h1, h2, h3⟩ := h
    exact ⟨a, vs, h1, sqT_same e h2, RepL.same e h3⟩
  | .lst _, _, h => by
    rw [Rep] at h ⊢
    obtain ⟨a, vs, h1, h2, h3⟩ := h
    exact ⟨a, vs, h1, e _ _ h2, RepL.same e h3⟩
theorem RepL.same {K : PySem.W.Frag} {H H' : Hp} (e : Same H H') : ∀ {ds : List Dat} {vs : List V}, RepL K H ds vs → RepL K H' ds vs
  | [], _, h => by rw [RepL] at h ⊢; exact h
  | _ :: _, _, h => by
    rw [RepL] at h ⊢
    obtain ⟨v, r, h1, h2, h3⟩ := h
    exact ⟨v, r, h1, Rep.same e h2, RepL.same e h3⟩
end
theorem RepL.length {K : PySem.W.Frag} {H : Hp} : ∀ {ds : List Dat} {vs : List V}, RepL K H ds vs → vs.length = ds.length
  | [], _, h => by rw [RepL] at h; subst h; rfl
  | _ :: _, _, h => by
    rw [RepL] at h
    obtain ⟨v, r, rfl, _, h3⟩ := h
    rw [List.length_cons, List.length_cons, RepL.length h3]
theorem RepL.get {K : PySem.W.Frag} {H : Hp} : ∀ {ds : List Dat} {vs : List V} {i : Nat} {d : Dat}, RepL K H ds vs → ds[i]? = some d → ∃ v, vs[i]? = some v ∧ Rep K H d v
  | [], _, _, _, _, e => by simp at e
  | _ :: _, _, 0, _, h, e => by
    rw [RepL] at h
    obtain ⟨v, r, rfl, h2, _⟩ := h
    simp at e; subst e; exact ⟨v, rfl, h2⟩
  | _ :: _, _, i + 1, d, h, e => by
    rw [RepL] at h
    obtain ⟨v, r, rfl, _, h3⟩ := h
    obtain ⟨u, h4, h5⟩ := RepL.get (i := i) (d := d) h3 (by simpa using e)
    exact ⟨u, by simpa using h4, h5⟩
theorem RepL.nil {K : PySem.W.Frag} {H : Hp} : RepL K H [] [] := by rw [RepL]
theorem RepL.cons {K : PySem.W.Frag} {H : Hp} {d : Dat} {ds : List Dat} {v : V} {vs : List V} (h : Rep K H d v) (t : RepL K H ds vs) : RepL K H (d :: ds) (v :: vs) := by
  rw [RepL]; exact ⟨v, vs, rfl, h, t⟩
theorem RepL.append {K : PySem.W.Frag} {H : Hp} : ∀ {ds es : List Dat} {vs us : List V}, RepL K H ds vs → RepL K H es us → RepL K H (ds ++ es) (vs ++ us)
  | [], _, _, _, h, t => by rw [RepL] at h; subst h; exact t
  | _ :: _, _, _, _, h, t => by
    rw [RepL] at h
    obtain ⟨v, r, rfl, h2, h3⟩ := h
    exact RepL.cons h2 (RepL.append h3 t)
theorem RepL.drop {K : PySem.W.Frag} {H : Hp} : ∀ (n : Nat) {ds : List Dat} {vs : List V}, RepL K H ds vs → RepL K H (ds.drop n) (vs.drop n)
  | 0, _, _, h => h
  | _ + 1, [], _, h => by rw [RepL] at h; subst h; simpa using RepL.nil
  | n + 1, _ :: _, _, h => by
    rw [RepL] at h
    obtain ⟨v, r, rfl, _, h3⟩ := h
    exact RepL.drop n h3
theorem RepL.ints {K : PySem.W.Frag} {H : Hp} : ∀ {ns : List Int} {vs : List V}, RepL K H (ns.map Dat.int) vs → vs = ns.map V.int
  | [], _, h => by rw [List.map_nil, RepL] at h; subst h; rfl
  | _ :: _, _, h => by
    rw [List.map_cons, RepL] at h
    obtain ⟨v, r, rfl, h2, h3⟩ := h
    rw [Rep] at h2
    subst h2
    rw [RepL.ints h3]; rfl
inductive OD where
  | lst (l : List Dat)
  | dct (kvs : List (Dat × Dat))
abbrev Gs := Addr → Option OD
def g0 : Gs := fun _ => none
def put (G : Gs) (a : Addr) (o : OD) : Gs := fun b => if b = a then some o else G b
def rel (G : Gs) (a : Addr) : Gs := fun b => if b = a then none else G b
theorem put_same {G : Gs} {a : Addr} {o : OD} : put G a o a = some o := by simp [put]
theorem put_ne {G : Gs} {a b : Addr} {o : OD} (h : b ≠ a) : put G a o b = G b := by simp [put, h]
theorem rel_same {G : Gs} {a : Addr} : rel G a a = none := by simp [rel]
theorem rel_ne {G : Gs} {a b : Addr} (h : b ≠ a) : rel G a b = G b := by simp [rel, h]
theorem rel_put {G : Gs} {a : Addr} {o : OD} (h : G a = none) : rel (put G a o) a = G := by
  funext b; by_cases e : b = a
  · subst e; rw [rel_same, h]
  · rw [rel_ne e, put_ne e]
theorem put_put {G : Gs} {a : Addr} {o u : OD} : put (put G a o) a u = put G a u := by
  funext b; by_cases e : b = a
  · subst e; rw [put_same, put_same]
  · rw [put_ne e, put_ne e, put_ne e]
theorem put_comm {G : Gs} {a b : Addr} {o u : OD} (h : a ≠ b) : put (put G a o) b u = put (put G b u) a o := by
  funext c; by_cases e : c = a
  · subst e; rw [put_ne h, put_same, put_same]
  · by_cases f : c = b
    · subst f; rw [put_same, put_ne e, put_same]
    · rw [put_ne f, put_ne e, put_ne e, put_ne f]
theorem put_self {G : Gs} {a : Addr} {o : OD} (h : G a = some o) : put G a o = G := by
  funext b; by_cases e : b = a
  · subst e; rw [put_same, h]
  · rw [put_ne e]
def hid (H : Hp) (G : Gs) : Hp := fun b => if (G b).isSome then none else H b
theorem hid_get {H : Hp} {G : Gs} {b : Addr} {o : HO} (h : hid H G b = some o) : G b = none ∧ H b = some o := by
  unfold hid at h
  cases e : G b with
  | none => rw [e] at h; exact ⟨rfl, by simpa using h⟩
  | some u => rw [e] at h; simp at h
theorem hid_of {H : Hp} {G : Gs} {b : Addr} {o : HO} (h1 : G b = none) (h2 : H b = some o) : hid H G b = some o := by
  unfold hid; rw [h1]; simpa using h2
theorem hid_le {H : Hp} {G : Gs} : Same (hid H G) H := fun _ _ h => (hid_get h).2
structure Ext (H : Hp) (G : Gs) (H' : Hp) (G' : Gs) : Prop where
  keep : ∀ b o, H b = some o → G b = none → H' b = some o
  new : ∀ b, G' b ≠ none → G b ≠ none ∨ H b = none
theorem Ext.refl {H : Hp} {G : Gs} : Ext H G H G := ⟨fun _ _ h _ => h, fun _ h => .inl h⟩
theorem Ext.hid {H H' : Hp} {G G' : Gs} (e : Ext H G H' G') : Same (hid H G) (hid H' G') := fun b o h => by
  obtain ⟨h1, h2⟩ := hid_get h
  refine hid_of ?_ (e.keep b o h2 h1)
  cases q : G' b with
  | none => rfl
  | some u =>
    rcases e.new b (by rw [q]; exact nofun) with z | z
    · exact absurd h1 z
    · rw [h2] at z; cases z
theorem Ext.trans {H H1 H2 : Hp} {G G1 G2 : Gs} (a : Ext H G H1 G1) (b : Ext H1 G1 H2 G2) : Ext H G H2 G2 := by
  refine ⟨fun c o h h' => ?_, fun c h => ?_⟩
  · have h1 := a.keep c o h h'
    refine b.keep c o h1 ?_
    cases q : G1 c with
    | none => rfl
    | some u =>
      rcases a.new c (by rw [q]; exact nofun) with z | z
      · exact absurd h' z
      · rw [h] at z; cases z
  · rcases b.new c h with z | z
    · exact a.new c z
    · cases q : G c with
      | some u => exact .inl nofun
      | none =>
        right
        cases r : H c with
        | none => rfl
        | some o => rw [a.keep c o r q] at z; cases z
theorem Ext.alloc {H : Hp} {G : Gs} {p : Addr} {o : HO} (h : H p = none) : Ext H G (upd H p o) G :=
  ⟨fun b u e _ => by rw [upd_ne (ne_of_none e h)]; exact e, fun _ h => .inl h⟩
def keyD : Nat → Dat → Bool
  | _, .int _ => true
  | n + 1, .tup l => l.all (keyD n)
  | _, _ => false
mutual
def hashD : Dat → Int
  | .int i => hashInt i
  | .tup l => reduceHash (Builtin.Tuple.tupleHashOf (hashL l))
  | _ => 0
def hashL : List Dat → List Int
  | [] => []
  | d :: r => hashD d :: hashL r
end
def entD (x : Dat × Addr × Value) : DictEntry := ⟨hashD x.1, .ref x.2.1, x.2.2⟩
def DictAt (a : Addr) (xs : List (Dat × Addr × Value)) (h : Heap) : Prop :=
  (a == sysModules) = false ∧ xs.length ≤ sizeLine ∧ (xs.map (·.1)).Nodup ∧ ∃ o es ep, h.get? a = some o ∧ o.ExactDict ∧ o.data = .dict es ep ∧ es.toList = xs.map entD
def dctO (a : Addr) (xs : List (Dat × Addr × Value)) : HO := .ext (DictAt a xs)
def DRep (K : PySem.W.Frag) (H : Hp) : List (Dat × Dat) → List (Dat × Addr × Value) → Prop
  | [], xs => xs = []
  | (k, d) :: r, xs => ∃ a u xs', xs = (k, a, u) :: xs' ∧ keyD 6 k = true ∧ Rep K H k (.ref a) ∧ (∃ v, RelV v u ∧ Rep K H d v) ∧ DRep K H r xs'
theorem DRep.same {K : PySem.W.Frag} {H H' : Hp} (e : Same H H') : ∀ {kvs : List (Dat × Dat)} {xs : List (Dat × Addr × Value)}, DRep K H kvs xs → DRep K H' kvs xs
  | [], _, h => h
  | _ :: _, _, ⟨a, u, xs', h1, h2, h3, ⟨v, h4, h5⟩, h6⟩ => ⟨a, u, xs', h1, h2, h3.same e, ⟨v, h4, h5.same e⟩, DRep.same e h6⟩
section
variable (K : PySem.W.Frag)
def OwnOk (H : Hp) (G : Gs) (a : Addr) : OD → Prop
  | .lst l => ∃ vs, H a = some (.lst vs) ∧ RepL K (hid H G) l vs
  | .dct kvs => ∃ xs, H a = some (dctO a xs) ∧ DRep K (hid H G) kvs xs
def GOk (H : Hp) (G : Gs) : Prop := ∀ a o, G a = some o → OwnOk K H G a o
end
section
variable {K : PySem.W.Frag} {H H' : Hp} {G G' : Gs} {a p : Addr}
theorem OwnOk.there {o : OD} (h : OwnOk K H G a o) : ∃ u, H a = some u := by
  cases o with
  | lst l => obtain ⟨vs, h, _⟩ := h; exact ⟨_, h⟩
  | dct kvs => obtain ⟨xs, h, _⟩ := h; exact ⟨_, h⟩
theorem OwnOk.ext {o : OD} (h : OwnOk K H G a o) (e : Same (hid H G) (hid H' G')) (q : H' a = H a) : OwnOk K H' G' a o := by
  cases o with
  | lst l =>
    obtain ⟨vs, h1, h2⟩ := h
    exact ⟨vs, q.trans h1, h2.same e⟩
  | dct kvs =>
    obtain ⟨xs, h1, h2⟩ := h
    exact ⟨xs, q.trans h1, h2.same e⟩
theorem GOk.free (h : GOk K H G) (hp : H p = none) : G p = none := by
  cases q : G p with
  | none => rfl
  | some o => obtain ⟨u, e⟩ := (h p o q).there; rw [hp] at e; cases e
theorem GOk.alloc {o : HO} (h : GOk K H G) (hp : H p = none) : GOk K (upd H p o) G := fun b u q =>
  (h b u q).ext (Ext.alloc hp).hid (upd_ne (by rintro rfl; rw [h.free hp] at q; cases q))
theorem g0_ok : GOk K H g0 := fun _ _ h => nomatch h
theorem hid_g0 : hid H g0 = H := by funext b; simp [hid, g0]
end
abbrev Rho := List (Option Dat)
structure Stt (X : Cx) (H : Hp) (σ : St) (ρ : Rho) (G : Gs) : Prop where
  env : ∀ (i : Nat) d, ρ[i]? = some (some d) → ∃ v, σ[i]? = some (some v) ∧ Rep X.K (hid H G) d v
  len : ρ.length = σ.length
  own : GOk X.K H G
theorem Stt.ext {X : Cx} {H H' : Hp} {σ : St} {ρ : Rho} {G G' : Gs} (S : Stt X H σ ρ G) (e : Ext H G H' G') (o : GOk X.K H' G') : Stt X H' σ ρ G' :=
  ⟨fun i d h => let ⟨v, h1, h2⟩ := S.env i d h; ⟨v, h1, h2.same e.hid⟩, S.len, o⟩
theorem Stt.set {X : Cx} {H : Hp} {σ : St} {ρ : Rho} {G : Gs} {i : Nat} {d : Dat} {v : V} (S : Stt X H σ ρ G) (r : Rep X.K (hid H G) d v) : Stt X H (σ.set i (some v)) (ρ.set i (some d)) G := by
  refine ⟨fun j e h => ?_, by rw [List.length_set, List.length_set, S.len], S.own⟩
  by_cases hj : i = j
  · subst hj
    have hl : i < ρ.length := by
      have := (List.getElem?_eq_some_iff.mp h).1
      rwa [List.length_set] at this
    rw [List.getElem?_set_self hl] at h
    cases h
    exact ⟨v, by rw [List.getElem?_set_self (by rw [← S.len]; exact hl)], r⟩
  · rw [List.getElem?_set_ne hj] at h
    rw [List.getElem?_set_ne hj]
    exact S.env j e h
section
variable (X : Cx)
def Po (H : Hp) (G : Gs) (Q : Dat → Gs → Prop) : VK := fun v H' => ∃ d G', Ext H G H' G' ∧ GOk X.K H' G' ∧ Rep X.K (hid H' G') d v ∧ Q d G'
def PoT (H : Hp) (G : Gs) (Q : Bool → Gs → Prop) : Bool → Hp → Prop := fun b H' => ∃ G', Ext H G H' G' ∧ GOk X.K H' G' ∧ Q b G'
def PoA (H : Hp) (G : Gs) (Q : List Dat → Gs → Prop) : List V → Hp → Prop := fun vs H' => ∃ ds G', Ext H G H' G' ∧ GOk X.K H' G' ∧ RepL X.K (hid H' G') ds vs ∧ Q ds G'
def WE (ρ : Rho) (G : Gs) (e : Expr) (Q : Dat → Gs → Prop) : Prop :=
  ∀ (pins : List (Addr × Obj)) (s : Shared) (σ : St) (H : Hp), Inv X pins σ H s → Stt X H σ ρ G → wpAny (model X.prog X.w) X.A (eval e X.env) (EP X pins σ (Po X H G Q)) X.xe s
def WT (ρ : Rho) (G : Gs) (e : Expr) (Q : Bool → Gs → Prop) : Prop :=
  ∀ (pins : List (Addr × Obj)) (s : Shared) (σ : St) (H : Hp), Inv X pins σ H s → Stt X H σ ρ G → wpAny (model X.prog X.w) X.A (isTrue e X.env (eval e X.env)) (TP X pins σ (PoT X H G Q)) X.xe s
def WA (ρ : Rho) (G : Gs) (es : List Expr) (Q : List Dat → Gs → Prop) : Prop :=
  ∀ (pos : Pos) (pins : List (Addr × Obj)) (s : Shared) (σ : St) (H : Hp), Inv X pins σ H s → Stt X H σ ρ G → wpAny (model X.prog X.w) X.A (spliced (backTo pos (starEach es X.env))) (AP X pins σ (PoA X H G Q)) X.xe s
def PX (ρ : Rho) (G : Gs) (e : Expr) (d : Dat) : Prop := WE X ρ G e fun d' G' => d' = d ∧ G' = G
def PXT (ρ : Rho) (G : Gs) (e : Expr) (b : Bool) : Prop := WT X ρ G e fun b' G' => b' = b ∧ G' = G
def PXs (ρ : Rho) (G : Gs) (es : List Expr) (ds : List Dat) : Prop := WA X ρ G es fun d' G' => d' = ds ∧ G' = G
end
theorem EP.mono {X : Cx} {pins : List (Addr × Obj)} {σ : St} {Q Q' : VK} {u : Value} {s : Shared} (h : EP X pins σ Q u s) (k : ∀ v H, Q v H → Q' v H) : EP X pins σ Q' u s :=
  let ⟨v, H, I, r, q⟩ := h; ⟨v, H, I, r, k v H q⟩
theorem TP.mono {X : Cx} {pins : List (Addr × Obj)} {σ : St} {Q Q' : Bool → Hp → Prop} {u : Bool} {s : Shared} (h : TP X pins σ Q u s) (k : ∀ v H, Q v H → Q' v H) : TP X pins σ Q' u s :=
  let ⟨H, I, q⟩ := h; ⟨H, I, k _ H q⟩
theorem AP.mono {X : Cx} {pins : List (Addr × Obj)} {σ : St} {Q Q' : List V → Hp → Prop} {u : List Value} {s : Shared} (h : AP X pins σ Q u s) (k : ∀ v H, Q v H → Q' v H) : AP X pins σ Q' u s :=
  let ⟨v, H, I, r, q⟩ := h; ⟨v, H, I, r, k v H q⟩
theorem Po.mono {X : Cx} {H : Hp} {G : Gs} {Q Q' : Dat → Gs → Prop} {v : V} {H' : Hp} (h : Po X H G Q v H') (k : ∀ d G', Q d G' → Q' d G') : Po X H G Q' v H' :=
  let ⟨d, G', e, o, r, q⟩ := h; ⟨d, G', e, o, r, k d G' q⟩
theorem Po.trans {X : Cx} {H H1 : Hp} {G G1 : Gs} {Q : Dat → Gs → Prop} {v : V} {H' : Hp} (e : Ext H G H1 G1) (h : Po X H1 G1 Q v H') : Po X H G Q v H' :=
  let ⟨d, G', e', o, r, q⟩ := h; ⟨d, G', e.trans e', o, r, q⟩
theorem PoT.trans {X : Cx} {H H1 : Hp} {G G1 : Gs} {Q : Bool → Gs → Prop} {v : Bool} {H' : Hp} (e : Ext H G H1 G1) (h : PoT X H1 G1 Q v H') : PoT X H G Q v H' :=
  let ⟨G', e', o, q⟩ := h; ⟨G', e.trans e', o, q⟩
section
variable {X : Cx} {ρ : Rho} {G : Gs} {e a b : Expr} {es : List Expr} {d d' d1 d2 : Dat} {ds : List Dat} {pos : Pos}
theorem we_pe {t : TE} {Q : Dat → Gs → Prop} (h : PE X e t) (hq : ∀ σ H, Stt X H σ ρ G → t σ H (Po X H G Q)) : WE X ρ G e Q := fun pins s σ H I S => h pins s σ H _ I (hq σ H S)
def tW (X : Cx) (e : Expr) : TE := fun σ H Q' => ∃ ρ G R, WE X ρ G e R ∧ Stt X H σ ρ G ∧ ∀ v H', Po X H G R v H' → Q' v H'
theorem pe_we : PE X e (tW X e) := fun pins s σ H Q I ⟨_, _, _, h, S, k⟩ => thn (h pins s σ H I S) fun _ _ q => EP.mono q k
theorem wt_pt {t : TT} {Q : Bool → Gs → Prop} (h : PT X e t) (hq : ∀ σ H, Stt X H σ ρ G → t σ H (PoT X H G Q)) : WT X ρ G e Q := fun pins s σ H I S => h pins s σ H _ I (hq σ H S)
theorem wa_pa {t : TA} {Q : List Dat → Gs → Prop} (h : PA X es t) (hq : ∀ σ H, Stt X H σ ρ G → t σ H (PoA X H G Q)) : WA X ρ G es Q := fun pos pins s σ H I S => h pos pins s σ H _ I (hq σ H S)
def tWA (X : Cx) (es : List Expr) : TA := fun σ H Q' => ∃ ρ G R, WA X ρ G es R ∧ Stt X H σ ρ G ∧ ∀ v H', PoA X H G R v H' → Q' v H'
theorem pa_wa : PA X es (tWA X es) := fun pos pins s σ H Q I ⟨_, _, _, h, S, k⟩ => thn (h pos pins s σ H I S) fun _ _ q => AP.mono q k
theorem WE.mono {Q Q' : Dat → Gs → Prop} (h : WE X ρ G e Q) (k : ∀ d G', Q d G' → Q' d G') : WE X ρ G e Q' := fun pins s σ H I S => thn (h pins s σ H I S) fun _ _ q => EP.mono q fun _ _ z => Po.mono z k
theorem PX.we {Q : Dat → Gs → Prop} (h : PX X ρ G e d) (q : Q d G) : WE X ρ G e Q := WE.mono h fun _ _ ⟨h1, h2⟩ => by subst h1; subst h2; exact q
theorem PX.cast (h : PX X ρ G e d) (q : d = d') : PX X ρ G e d' := q ▸ h
theorem po1 {H H' : Hp} {v : V} (e : Ext H G H' G) (o : GOk X.K H' G) (r : Rep X.K (hid H' G) d v) : Po X H G (fun d' G' => d' = d ∧ G' = G) v H' := ⟨d, G, e, o, r, rfl, rfl⟩
theorem po1' {H : Hp} {v : V} (o : GOk X.K H G) (r : Rep X.K (hid H G) d v) : Po X H G (fun d' G' => d' = d ∧ G' = G) v H := po1 Ext.refl o r
theorem px_var (i : Nat) {x : Str} (hi : ρ[i]? = some (some d)) (hN : X.N[i]? = some x := by rfl) (hv : Vis X.env.scope x := by first | exact Or.inl rfl | exact Or.inr (Or.inl rfl) | exact Or.inr (Or.inr rfl)) (hd : (x == ("__debug__" : Str)) = false := by decide)
    (hcd : (x == ("__classdict__" : Str)) = false := by decide) : PX X ρ G (.Name x pos) d :=
  we_pe (pe_var hN hv hd hcd) fun σ H S => let ⟨v, h1, h2⟩ := S.env i d hi; ⟨v, h1, po1' S.own h2⟩
theorem px_int {i : Int} {j} : PX X ρ G (.Constant (.int i) j pos) (.int i) := we_pe pe_int fun σ H S => po1' S.own rfl
theorem px_bl {i : Bool} {j} : PX X ρ G (.Constant (.bool i) j pos) (.bl i) := we_pe pe_bl fun σ H S => po1' S.own rfl
theorem px_op {op : Operator} {r : R2} (ho : OpR X (binaryOp op) r) (ha : PX X ρ G a d1) (hb : PX X ρ G b d2)
    (hr : ∀ (H : Hp) (x y : V) (Q : VK), GOk X.K H G → Rep X.K (hid H G) d1 x → Rep X.K (hid H G) d2 y → (∀ v H', Po X H G (fun d' G' => d' = d ∧ G' = G) v H' → Q v H') → r x y H Q) : PX X ρ G (.BinOp a op b pos) d :=
  we_pe (pe_op ho pe_we pe_we) fun σ H S => ⟨ρ, G, _, ha, S, fun x H1 ⟨_, _, e1, o1, r1, q1, q1'⟩ => by
    subst q1; subst q1'
    refine ⟨ρ, _, _, hb, S.ext e1 o1, fun y H2 ⟨_, _, e2, o2, r2, q2, q2'⟩ => ?_⟩
    subst q2; subst q2'
    exact hr H2 x y _ o2 (r1.same e2.hid) r2 fun v H' z => Po.trans (e1.trans e2) z⟩
end
end TF
namespace TF
open PySem PySem.Spec L2
open PyProof.Rows hiding St RelV
mutual
def eqD : Dat → Dat → Bool
  | .non, .non => true
  | .bl a, .bl b => a == b
  | .bl a, .int b => (if a then 1 else 0) == b
  | .int a, .bl b => a == (if b then 1 else 0)
  | .int a, .int b => a == b
  | .str a, .str b => a == b
  | .tup l, .tup m => eqL l m
  | .lst l, .lst m => eqL l m
  | _, _ => false
def eqL : List Dat → List Dat → Bool
  | [], [] => true
  | x :: xs, y :: ys => eqD x y && eqL xs ys
  | _, _ => false
end
def flatD : Dat → Bool
  | .non => true | .bl _ => true | .int _ => true | .str _ => true | _ => false
def plainD : Nat → Dat → Bool
  | 0, d => flatD d
  | n + 1, .tup l => l.all (plainD n)
  | n + 1, .lst l => l.all (plainD n)
  | _ + 1, d => flatD d
theorem plainD_flat {d : Dat} (h : flatD d = true) : ∀ n, plainD n d = true
  | 0 => h
  | n + 1 => by cases d <;> first | exact h | (simp [flatD] at h)
theorem plainD_mono {d : Dat} : ∀ {n m : Nat}, n ≤ m → plainD n d = true → plainD m d = true := by
  intro n
  induction n generalizing d with
  | zero => intro m _ h; exact plainD_flat h m
  | succ n ih =>
    intro m hm h
    obtain ⟨k, rfl⟩ : ∃ k, m = k + 1 := ⟨m - 1, by omega⟩
    cases d <;> first | exact h | skip
    all_goals
      simp only [plainD, List.all_eq_true] at h ⊢
      exact fun x hx => ih (by omega) (h x hx)
theorem eqD_refl : ∀ (n : Nat) (d : Dat), plainD n d = true → eqD d d = true := by
  intro n
  induction n with
  | zero => intro d h; cases d <;> simp_all [plainD, flatD, eqD]
  | succ n ih =>
    have hl : ∀ l : List Dat, l.all (plainD n) = true → eqL l l = true := by
      intro l
      induction l with
      | nil => intro _; simp [eqL]
      | cons x r ihr =>
        intro h
        simp only [List.all_cons, Bool.and_eq_true] at h
        simp only [eqL, Bool.and_eq_true]
        exact ⟨ih x h.1, ihr h.2⟩
    intro d h
    cases d <;> simp_all [plainD, flatD, eqD]
theorem eqL_range : ∀ (l m : List Dat), eqL l m = ((List.range (min l.length m.length)).all (fun j => match l[j]?, m[j]? with | some x, some y => eqD x y | _, _ => true) && l.length == m.length)
  | [], [] => by simp [eqL]
  | [], _ :: _ => by simp [eqL]
  | _ :: _, [] => by simp [eqL]
  | x :: l, y :: m => by
    rw [eqL, eqL_range l m, List.length_cons, List.length_cons, Nat.succ_min_succ, List.range_succ_eq_map, List.all_cons, List.all_map]
    simp only [List.getElem?_cons_zero, Function.comp_def, List.getElem?_cons_succ, Nat.succ_eq_add_one, Bool.and_assoc]
    congr 2
    rw [Bool.eq_iff_iff]; simp
mutual
def AtH (h : Heap) : Dat → Value → Prop
  | .non, u => u = .none
  | .bl b, u => u = .bool b
  | .int i, u => ∃ t, u = .int i t
  | .str x, u => ∃ t, u = .str x t
  | .fn a, u => u = .ref a
  | .scr _, _ => False
  | .tup l, u => ∃ a its, u = .ref a ∧ h.IsTuple a its.toArray ∧ AtL h l its
  | .lst l, u => ∃ a its, u = .ref a ∧ h.IsList a its.toArray ∧ AtL h l its
def AtL (h : Heap) : List Dat → List Value → Prop
  | [], us => us = []
  | d :: ds, us => ∃ u r, us = u :: r ∧ AtH h d u ∧ AtL h ds r
end
theorem AtL.length {h : Heap} : ∀ {ds : List Dat} {us : List Value}, AtL h ds us → us.length = ds.length
  | [], _, r => by rw [AtL] at r; subst r; rfl
  | _ :: _, _, r => by
    rw [AtL] at r
    obtain ⟨u, r, rfl, _, h3⟩ := r
    rw [List.length_cons, List.length_cons, AtL.length h3]
theorem AtL.get {h : Heap} : ∀ {ds : List Dat} {us : List Value} {i : Nat} {d : Dat}, AtL h ds us → ds[i]? = some d → ∃ u, us[i]? = some u ∧ AtH h d u
  | [], _, _, _, _, e => by simp at e
  | _ :: _, _, 0, _, r, e => by
    rw [AtL] at r
    obtain ⟨u, r, rfl, h2, _⟩ := r
    simp at e; subst e; exact ⟨u, rfl, h2⟩
  | _ :: _, _, i + 1, d, r, e => by
    rw [AtL] at r
    obtain ⟨u, r, rfl, _, h3⟩ := r
    obtain ⟨u', h4, h5⟩ := AtL.get (i := i) (d := d) h3 (by simpa using e)
    exact ⟨u', by simpa using h4, h5⟩
section
variable {X : Cx} {pins : List (Addr × Obj)} {σ : St} {H : Hp} {s : Shared}
mutual
theorem Rep.at (I : Inv X pins σ H s) : ∀ {d : Dat} {v : V} {u : Value} {n : Nat}, plainD n d = true → Rep X.K H d v → RelV v u → AtH s.heap d u
  | .non, _, _, _, _, r, q => by rw [Rep] at r; subst r; cases q; rw [AtH]
  | .bl _, _, _, _, _, r, q => by rw [Rep] at r; subst r; cases q; rw [AtH]
  | .int _, _, _, _, _, r, q => by rw [Rep] at r; subst r; rw [AtH]; exact q
  | .str _, _, _, _, _, r, q => by rw [Rep] at r; subst r; rw [AtH]; exact q
  | .fn _, _, _, _, _, r, q => by rw [Rep] at r; subst r; cases q; rw [AtH]
  | .scr _, _, _, n, p, _, _ => by cases n <;> simp [plainD, flatD] at p
  | .tup l, _, _, n, p, r, q => by
    rw [Rep] at r
    obtain ⟨a, vs, rfl, h1, h2⟩ := r
    cases q
    obtain ⟨its, rv, ht, _⟩ := I.tuple h1
    rw [AtH]
    refine ⟨a, its, rfl, ht, ?_⟩
    cases n with
    | zero => simp [plainD, flatD] at p
    | succ n => exact RepL.at I (n := n) (by simpa [plainD] using p) h2 rv
  | .lst l, _, _, n, p, r, q => by
    rw [Rep] at r
    obtain ⟨a, vs, rfl, h1, h2⟩ := r
    cases q
    obtain ⟨its, rv, ht, _⟩ := I.list (SqL.of h1)
    rw [AtH]
    refine ⟨a, its, rfl, ht.isList, ?_⟩
    cases n with
    | zero => simp [plainD, flatD] at p
    | succ n => exact RepL.at I (n := n) (by simpa [plainD] using p) h2 rv
theorem RepL.at (I : Inv X pins σ H s) : ∀ {ds : List Dat} {vs : List V} {us : List Value} {n : Nat}, ds.all (plainD n) = true → RepL X.K H ds vs → Vals vs us → AtL s.heap ds us
  | [], _, _, _, _, r, q => by rw [RepL] at r; subst r; cases q; rw [AtL]
  | d :: ds, _, _, n, p, r, q => by
    rw [RepL] at r
    obtain ⟨v, r, rfl, h1, h2⟩ := r
    cases q with
    | cons q1 q2 =>
      simp only [List.all_cons, Bool.and_eq_true] at p
      rw [AtL]
      exact ⟨_, _, rfl, Rep.at I p.1 h1 q1, RepL.at I p.2 h2 q2⟩
end
end
theorem AtH.flat {h : Heap} {d : Dat} {u : Value} (r : AtH h d u) (f : flatD d = true) : ∃ v, RelV v u ∧ flatV v = true ∧ ∀ (d' : Dat) (u' : Value) (v' : V), flatD d' = true → AtH h d' u' → RelV v' u' → eqV v v' = eqD d d' := by
  cases d <;> simp only [flatD, Bool.false_eq_true] at f <;> rw [AtH] at r
  · subst r
    refine ⟨.non, rfl, rfl, fun d' u' v' f' r' q' => ?_⟩
    cases d' <;> simp only [flatD, Bool.false_eq_true] at f' <;> rw [AtH] at r' <;> first | (subst r'; cases v' <;> simp_all [RelV, eqV, eqD]; done) | (obtain ⟨t, rfl⟩ := r'; cases v' <;> simp_all [RelV, eqV, eqD])
  · subst r
    refine ⟨.bl _, rfl, rfl, fun d' u' v' f' r' q' => ?_⟩
    cases d' <;> simp only [flatD, Bool.false_eq_true] at f' <;> rw [AtH] at r' <;> first | (subst r'; cases v' <;> simp_all [RelV, eqV, eqD]; done) | (obtain ⟨t, rfl⟩ := r'; cases v' <;> simp_all [RelV, eqV, eqD])
  · refine ⟨.int _, r, rfl, fun d' u' v' f' r' q' => ?_⟩
    cases d' <;> simp only [flatD, Bool.false_eq_true] at f' <;> rw [AtH] at r' <;> first | (subst r'; cases v' <;> simp_all [RelV, eqV, eqD]; done) | (obtain ⟨t, rfl⟩ := r'; cases v' <;> simp_all [RelV, eqV, eqD])
  · refine ⟨.str _, r, rfl, fun d' u' v' f' r' q' => ?_⟩
    cases d' <;> simp only [flatD, Bool.false_eq_true] at f' <;> rw [AtH] at r' <;> first | (subst r'; cases v' <;> simp_all [RelV, eqV, eqD]; done) | (obtain ⟨t, rfl⟩ := r'; cases v' <;> simp_all [RelV, eqV, eqD])
theorem not_both {h : Heap} {a : Addr} {xs ys : Array Value} (h1 : h.IsTuple a xs) (h2 : h.IsList a ys) : False := by
  obtain ⟨o, e, c, _⟩ := h1
  obtain ⟨o', e', c', _⟩ := h2
  rw [e] at e'; cases e'
  rw [c] at c'; exact absurd c' (by decide)
theorem tuple_one {h : Heap} {a : Addr} {xs ys : List Value} (h1 : h.IsTuple a xs.toArray) (h2 : h.IsTuple a ys.toArray) : xs = ys := by
  obtain ⟨o, e, c, n, d⟩ := h1
  obtain ⟨o', e', c', n', d'⟩ := h2
  rw [e] at e'; cases e'
  rw [d] at d'
  injection d' with d1 _
  simpa using congrArg Array.toList d1
theorem list_one {h : Heap} {a : Addr} {xs ys : List Value} (h1 : h.IsList a xs.toArray) (h2 : h.IsList a ys.toArray) : xs = ys := by
  obtain ⟨o, e, c, n, d⟩ := h1
  obtain ⟨o', e', c', n', d'⟩ := h2
  rw [e] at e'; cases e'
  rw [d] at d'
  injection d' with d1 _
  simpa using congrArg Array.toList d1
theorem AtH.inj {h : Heap} : ∀ (n : Nat) {d d' : Dat} {u : Value}, plainD n d = true → plainD n d' = true → AtH h d u → AtH h d' u → d = d' := by
  have flat : ∀ {d d' : Dat} {u : Value}, flatD d = true → flatD d' = true → AtH h d u → AtH h d' u → d = d' := by
    intro d d' u f f' r r'
    cases d <;> simp only [flatD, Bool.false_eq_true] at f <;> cases d' <;> simp only [flatD, Bool.false_eq_true] at f' <;> simp only [AtH] at r r' <;>
      first
      | rfl
      | (subst r; cases r'; rfl)
      | (obtain ⟨t, rfl⟩ := r; obtain ⟨t', e⟩ := r'; cases e; rfl)
      | (exfalso; subst r; cases r'; done)
      | (exfalso; subst r; obtain ⟨t', e⟩ := r'; cases e; done)
      | (exfalso; obtain ⟨t, rfl⟩ := r; cases r'; done)
      | (exfalso; obtain ⟨t, rfl⟩ := r; obtain ⟨t', e⟩ := r'; cases e; done)
  have cross : ∀ {d : Dat} {u : Value} {a : Addr}, flatD d = true → AtH h d u → u = .ref a → False := by
    intro d u a f r e
    subst e
    cases d <;> simp only [flatD, Bool.false_eq_true] at f <;> rw [AtH] at r <;> first | (cases r; done) | (obtain ⟨t, e⟩ := r; cases e; done)
  intro n
  induction n with
  | zero => intro d d' u h h' r r'; exact flat h h' r r'
  | succ n ih =>
    have hl : ∀ (l m : List Dat) (us : List Value), l.all (plainD n) = true → m.all (plainD n) = true → AtL h l us → AtL h m us → l = m := by
      intro l
      induction l with
      | nil =>
        intro m us _ _ r r'
        rw [AtL] at r; subst r
        cases m with
        | nil => rfl
        | cons y m => rw [AtL] at r'; obtain ⟨_, _, e, _⟩ := r'; cases e
      | cons x l ihl =>
        intro m us h h' r r'
        rw [AtL] at r
        obtain ⟨v, rr, rfl, r1, r2⟩ := r
        cases m with
        | nil => rw [AtL] at r'; cases r'
        | cons y m =>
          rw [AtL] at r'
          obtain ⟨v', rr', e, r1', r2'⟩ := r'
          cases e
          simp only [List.all_cons, Bool.and_eq_true] at h h'
          rw [ih h.1 h'.1 r1 r1', ihl m _ h.2 h'.2 r2 r2']
    intro d d' u h h' r r'
    by_cases f : flatD d = true
    · by_cases f' : flatD d' = true
      · exact flat f f' r r'
      · exfalso
        cases d' <;> simp [plainD, flatD] at h' f'
        · rw [AtH] at r'; obtain ⟨a, _, e, _⟩ := r'; exact cross f r e
        · rw [AtH] at r'; obtain ⟨a, _, e, _⟩ := r'; exact cross f r e
    · by_cases f' : flatD d' = true
      · exfalso
        cases d <;> simp [plainD, flatD] at h f
        · rw [AtH] at r; obtain ⟨a, _, e, _⟩ := r; exact cross f' r' e
        · rw [AtH] at r; obtain ⟨a, _, e, _⟩ := r; exact cross f' r' e
      · cases d <;> simp [plainD, flatD] at h f <;> cases d' <;> simp [plainD, flatD] at h' f' <;> simp only [AtH] at r r' <;> obtain ⟨a, xs, e1, t1, l1⟩ := r <;> obtain ⟨b, ys, e2, t2, l2⟩ := r' <;> subst e1 <;> cases e2
        · have := tuple_one t1 t2
          subst this
          rw [hl _ _ _ (List.all_eq_true.mpr h) (List.all_eq_true.mpr h') l1 l2]
        · exact (not_both t1 t2).elim
        · exact (not_both t2 t1).elim
        · have := list_one t1 t2
          subst this
          rw [hl _ _ _ (List.all_eq_true.mpr h) (List.all_eq_true.mpr h') l1 l2]
theorem Rep.inj {X : Cx} {pins : List (Addr × Obj)} {σ : St} {H : Hp} {s : Shared} (I : Inv X pins σ H s) (n : Nat) {d d' : Dat} {v : V} {u : Value} (h : plainD n d = true) (h' : plainD n d' = true) (r : Rep X.K H d v) (r' : Rep X.K H d' v) (q : RelV v u) : d = d' :=
  AtH.inj n h h' (r.at I h q) (r'.at I h' q)
theorem eqAt_D {s : Shared} : ∀ (n : Nat) {A : Around} {d e : Dat} {u v : Value}, plainD n d = true → plainD n e = true → AtH s.heap d u → AtH s.heap e v → A.units + n < cLine →
    SeqAt.EqAt A s u v (eqD d e) ∧ SeqAt.RcAt A s u v (eqD d e) := by
  have flats : ∀ {A : Around} {d e : Dat} {u v : Value}, flatD d = true → flatD e = true → AtH s.heap d u → AtH s.heap e v → SeqAt.EqAt A s u v (eqD d e) ∧ SeqAt.RcAt A s u v (eqD d e) := by
    intro A d e u v fd fe rd re
    constructor
    · obtain ⟨x, hx, fx, h1⟩ := AtH.flat rd fd
      obtain ⟨y, hy, fy, _⟩ := AtH.flat re fe
      rw [← h1 e v y fe re hy]
      exact eqAt_V hx hy fx fy
    · cases d <;> simp only [flatD, Bool.false_eq_true] at fd <;> cases e <;> simp only [flatD, Bool.false_eq_true] at fe <;> simp only [AtH] at rd re <;> simp only [eqD]
      · subst rd; subst re; exact SeqAt.RcAt.none_none
      · subst rd; subst re; exact SeqAt.RcAt.none_bool _
      · subst rd; obtain ⟨_, rfl⟩ := re; exact SeqAt.RcAt.none_int _ _
      · subst rd; obtain ⟨_, rfl⟩ := re; exact SeqAt.RcAt.none_str _ _
      · subst rd; subst re; exact SeqAt.RcAt.bool_none _
      · subst rd; subst re; exact SeqAt.RcAt.bool_bool _ _
      · subst rd; obtain ⟨_, rfl⟩ := re; exact SeqAt.RcAt.bool_int _ _ _
      · subst rd; obtain ⟨_, rfl⟩ := re; exact SeqAt.RcAt.bool_str _ _ _
      · obtain ⟨_, rfl⟩ := rd; subst re; exact SeqAt.RcAt.int_none _ _
      · obtain ⟨_, rfl⟩ := rd; subst re; exact SeqAt.RcAt.int_bool _ _ _
      · obtain ⟨_, rfl⟩ := rd; obtain ⟨_, rfl⟩ := re; exact SeqAt.RcAt.int_int _ _ _ _
      · obtain ⟨_, rfl⟩ := rd; obtain ⟨_, rfl⟩ := re; exact SeqAt.RcAt.int_str _ _ _ _
      · obtain ⟨_, rfl⟩ := rd; subst re; exact SeqAt.RcAt.str_none _ _
      · obtain ⟨_, rfl⟩ := rd; subst re; exact SeqAt.RcAt.str_bool _ _ _
      · obtain ⟨_, rfl⟩ := rd; obtain ⟨_, rfl⟩ := re; exact SeqAt.RcAt.str_int _ _ _ _
      · obtain ⟨_, rfl⟩ := rd; obtain ⟨_, rfl⟩ := re; exact SeqAt.RcAt.str_str _ _ _ _
  intro n
  induction n with
  | zero => intro A d e u v hd he rd re _; exact flats hd he rd re
  | succ n ih =>
    intro A d e u v hd he rd re hu
    have hu0 : A.units < cLine := by omega
    have items : ∀ (l m : List Dat) (is js : List Value), l.all (plainD n) = true → m.all (plainD n) = true → AtL s.heap l is → AtL s.heap m js →
        ∀ j (h1 : j < is.toArray.size) (h2 : j < js.toArray.size), SeqAt.EqAt A.in1 s is.toArray[j] js.toArray[j] ((fun j => match l[j]?, m[j]? with | some x, some y => eqD x y | _, _ => true) j) := by
      intro l m is js hl hm rl rm j h1 h2
      have h1' : j < is.length := by simpa using h1
      have h2' : j < js.length := by simpa using h2
      have l1 : j < l.length := by rw [← rl.length]; exact h1'
      have l2 : j < m.length := by rw [← rm.length]; exact h2'
      obtain ⟨u1, f1, q1⟩ := rl.get (List.getElem?_eq_getElem l1)
      obtain ⟨u2, f2, q2⟩ := rm.get (List.getElem?_eq_getElem l2)
      rw [List.getElem?_eq_getElem h1'] at f1
      rw [List.getElem?_eq_getElem h2'] at f2
      cases f1
      cases f2
      have hx : plainD n l[j] = true := List.all_eq_true.mp hl _ (List.getElem_mem l1)
      have hy : plainD n m[j] = true := List.all_eq_true.mp hm _ (List.getElem_mem l2)
      have := (ih (A := A.in1) hx hy q1 q2 (by show A.units + 1 + n < cLine; omega)).1
      simpa [List.getElem?_eq_getElem l1, List.getElem?_eq_getElem l2] using this
    by_cases fd : flatD d = true
    · by_cases fe : flatD e = true
      · exact flats fd fe rd re
      · cases e <;> simp [plainD, flatD] at he fe
        · rw [AtH] at re
          obtain ⟨b, js, rfl, tj, rm⟩ := re
          cases d <;> simp only [flatD, Bool.false_eq_true] at fd <;> rw [AtH] at rd
          · subst rd; exact ⟨.none_tuple tj hu0, .none_tuple tj hu0⟩
          · subst rd; exact ⟨.bool_tuple _ tj hu0, .bool_tuple _ tj hu0⟩
          · obtain ⟨t, rfl⟩ := rd; exact ⟨.int_tuple _ _ tj hu0, .int_tuple _ _ tj hu0⟩
          · obtain ⟨t, rfl⟩ := rd; exact ⟨.str_tuple _ _ tj hu0, .str_tuple _ _ tj hu0⟩
        · rw [AtH] at re
          obtain ⟨b, js, rfl, tj, rm⟩ := re
          cases d <;> simp only [flatD, Bool.false_eq_true] at fd <;> rw [AtH] at rd
          · subst rd; exact ⟨.none_list tj hu0, .none_list tj hu0⟩
          · subst rd; exact ⟨.bool_list _ tj hu0, .bool_list _ tj hu0⟩
          · obtain ⟨t, rfl⟩ := rd; exact ⟨.int_list _ _ tj hu0, .int_list _ _ tj hu0⟩
          · obtain ⟨t, rfl⟩ := rd; exact ⟨.str_list _ _ tj hu0, .str_list _ _ tj hu0⟩
    · cases d with
      | tup l =>
        have rd' := rd
        rw [AtH] at rd
        obtain ⟨a, is, rfl, ti, rl⟩ := rd
        cases e with
        | tup m =>
          have re' := re
          rw [AtH] at re
          obtain ⟨b, js, rfl, tj, rm⟩ := re
          have rc : SeqAt.RcAt A s (.ref a) (.ref b) (eqD (.tup l) (.tup m)) := by
            have := SeqAt.RcAt.tuples ti tj hu0 (items l m is js (by simpa [plainD] using hd) (by simpa [plainD] using he) rl rm)
            rw [eqD, eqL_range]
            have e1 : is.toArray.size = l.length := by rw [List.size_toArray, rl.length]
            have e2 : js.toArray.size = m.length := by rw [List.size_toArray, rm.length]
            rw [e1, e2] at this
            exact this
          refine ⟨?_, rc⟩
          by_cases hab : a = b
          · subst hab
            have := AtH.inj (n + 1) hd he rd' re'
            rw [← this, eqD_refl (n + 1) _ hd]
            exact SeqAt.EqAt.same _
          · exact SeqAt.EqAt.of_refs hab rc
        | lst m =>
          rw [AtH] at re
          obtain ⟨b, js, rfl, tj, rm⟩ := re
          exact ⟨.tuple_list ti tj hu0, .tuple_list ti tj hu0⟩
        | fn a => simp [plainD, flatD] at he
        | scr a => simp [plainD, flatD] at he
        | non => rw [AtH] at re; subst re; exact ⟨.tuple_none ti hu0, .tuple_none ti hu0⟩
        | bl b => rw [AtH] at re; subst re; exact ⟨.tuple_bool _ ti hu0, .tuple_bool _ ti hu0⟩
        | int b => rw [AtH] at re; obtain ⟨t, rfl⟩ := re; exact ⟨.tuple_int _ _ ti hu0, .tuple_int _ _ ti hu0⟩
        | str b => rw [AtH] at re; obtain ⟨t, rfl⟩ := re; exact ⟨.tuple_str _ _ ti hu0, .tuple_str _ _ ti hu0⟩
      | lst l =>
        have rd' := rd
        rw [AtH] at rd
        obtain ⟨a, is, rfl, ti, rl⟩ := rd
        cases e with
        | tup m =>
          rw [AtH] at re
          obtain ⟨b, js, rfl, tj, rm⟩ := re
          exact ⟨.list_tuple ti tj hu0, .list_tuple ti tj hu0⟩
        | lst m =>
          have re' := re
          rw [AtH] at re
          obtain ⟨b, js, rfl, tj, rm⟩ := re
          have e1 : is.toArray.size = l.length := by rw [List.size_toArray, rl.length]
          have e2 : js.toArray.size = m.length := by rw [List.size_toArray, rm.length]
          have rc : SeqAt.RcAt A s (.ref a) (.ref b) (eqD (.lst l) (.lst m)) := by
            rw [eqD, eqL_range]
            by_cases hsz : l.length = m.length
            · have := SeqAt.RcAt.lists ti tj (by rw [e1, e2, hsz]) hu0 (items l m is js (by simpa [plainD] using hd) (by simpa [plainD] using he) rl rm)
              rw [e1] at this
              rw [hsz, Nat.min_self, beq_self_eq_true, Bool.and_true, ← hsz]
              exact this
            · have := SeqAt.RcAt.lists_lengths ti tj (by rw [e1, e2]; simpa using hsz) hu0
              rw [show (l.length == m.length) = false by simpa using hsz, Bool.and_false]
              exact this
          refine ⟨?_, rc⟩
          by_cases hab : a = b
          · subst hab
            have := AtH.inj (n + 1) hd he rd' re'
            rw [← this, eqD_refl (n + 1) _ hd]
            exact SeqAt.EqAt.same _
          · exact SeqAt.EqAt.of_refs hab rc
        | fn a => simp [plainD, flatD] at he
        | scr a => simp [plainD, flatD] at he
        | non => rw [AtH] at re; subst re; exact ⟨.list_none ti hu0, .list_none ti hu0⟩
        | bl b => rw [AtH] at re; subst re; exact ⟨.list_bool _ ti hu0, .list_bool _ ti hu0⟩
        | int b => rw [AtH] at re; obtain ⟨t, rfl⟩ := re; exact ⟨.list_int _ _ ti hu0, .list_int _ _ ti hu0⟩
        | str b => rw [AtH] at re; obtain ⟨t, rfl⟩ := re; exact ⟨.list_str _ _ ti hu0, .list_str _ _ ti hu0⟩
      | fn a => simp [plainD, flatD] at hd
      | scr a => simp [plainD, flatD] at hd
      | non => simp [flatD] at fd
      | bl a => simp [flatD] at fd
      | int a => simp [flatD] at fd
      | str a => simp [flatD] at fd
section
variable {X : Cx}
def rEqD (K : PySem.W.Frag) : R2 := fun x y H Q => ∃ d e, Rep K H d x ∧ Rep K H e y ∧ plainD 9 d = true ∧ plainD 9 e = true ∧ Q (.bl (eqD d e)) H
theorem op_eqD (hu : X.A.units + 9 < cLine) : OpR X (compareOp .Eq) (rEqD X.K) := by
  intro pins s σ H x y v u Q I rx ry h
  obtain ⟨d, e, rd, re, pd, pe, q⟩ := h
  exact (eqAt_D 9 pd pe (rd.at I pd rx) (re.at I pe ry) hu).2 _ _ _ _ ⟨.bl _, H, I, rfl, q⟩
noncomputable def itemEq (K : PySem.W.Frag) (H : Hp) (l : List Dat) (x : Dat) (u : Value) : Bool :=
  open Classical in if h : ∃ d v, d ∈ l ∧ RelV v u ∧ Rep K H d v then eqD (Classical.choose h) x else false
theorem itemEq_is {pins : List (Addr × Obj)} {σ : St} {H : Hp} {s : Shared} (I : Inv X pins σ H s) {l : List Dat} {x d : Dat} {v : V} {u : Value} (hl : l.all (plainD 8) = true) (hd : d ∈ l) (r : RelV v u) (q : Rep X.K H d v) :
    itemEq X.K H l x u = eqD d x := by
  have h : ∃ d v, d ∈ l ∧ RelV v u ∧ Rep X.K H d v := ⟨d, v, hd, r, q⟩
  unfold itemEq
  rw [dif_pos h]
  obtain ⟨v', h1, h2, h3⟩ := Classical.choose_spec h
  have e : v' = v := h2.inj r
  subst e
  have p := List.all_eq_true.mp hl
  rw [Rep.inj I 8 (p _ h1) (p _ hd) h3 q r]
theorem any_itemEq {pins : List (Addr × Obj)} {σ : St} {H : Hp} {s : Shared} (I : Inv X pins σ H s) {x : Dat} {L : List Dat} (hL : L.all (plainD 8) = true) :
    ∀ {l : List Dat} {vs : List V} {us : List Value}, (∀ d ∈ l, d ∈ L) → RepL X.K H l vs → Vals vs us → us.any (itemEq X.K H L x) = l.any fun d => eqD d x
  | [], _, _, _, rl, rv => by rw [RepL] at rl; subst rl; cases rv; rfl
  | d :: l, _, _, hs, rl, rv => by
    rw [RepL] at rl
    obtain ⟨v, r, rfl, r1, r2⟩ := rl
    cases rv with
    | cons q1 q2 =>
      rw [List.any_cons, List.any_cons, itemEq_is I hL (hs d List.mem_cons_self) q1 r1, any_itemEq I hL (fun e he => hs e (List.mem_cons_of_mem _ he)) r2 q2]
theorem mem_itemEq {pins : List (Addr × Obj)} {σ : St} {H : Hp} {s : Shared} (I : Inv X pins σ H s) {x : Dat} {y : V} {w : Value} {A : Around} (hx : plainD 8 x = true) (rx : Rep X.K H x y) (ry : RelV y w) (hu : A.units + 8 < cLine) {L : List Dat} (hL : L.all (plainD 8) = true) :
    ∀ {l : List Dat} {vs : List V} {us : List Value}, (∀ d ∈ l, d ∈ L) → RepL X.K H l vs → Vals vs us → ∀ u ∈ us, SeqAt.EqAt A s u w (itemEq X.K H L x u)
  | [], _, _, _, rl, rv, u, hm => by rw [RepL] at rl; subst rl; cases rv; cases hm
  | d :: l, _, _, hs, rl, rv, u, hm => by
    rw [RepL] at rl
    obtain ⟨v, r, rfl, r1, r2⟩ := rl
    cases rv with
    | cons q1 q2 =>
      rcases List.mem_cons.mp hm with e | hm
      · subst e
        rw [itemEq_is I hL (hs d List.mem_cons_self) q1 r1]
        exact (eqAt_D 8 (List.all_eq_true.mp hL d (hs d List.mem_cons_self)) hx (r1.at I (List.all_eq_true.mp hL d (hs d List.mem_cons_self)) q1) (rx.at I hx ry) hu).1
      · exact mem_itemEq I hx rx ry hu hL (fun e he => hs e (List.mem_cons_of_mem _ he)) r2 q2 u hm
def rInD (K : PySem.W.Frag) (neg : Bool) : R2 := fun x y H Q => ∃ p vs d l, y = .ref p ∧ (H p = some (.lst vs) ∨ SqT K H p vs) ∧ RepL K H l vs ∧ Rep K H d x ∧ plainD 8 d = true ∧ l.all (plainD 8) = true ∧ Q (.bl (if neg then !(l.any fun e => eqD e d) else l.any fun e => eqD e d)) H
theorem op_inD (hu : X.A.units + 9 < cLine) : OpR X (compareOp .In) (rInD X.K false) := by
  intro pins s σ H x y v u Q I rx ry h
  obtain ⟨p, vs, d, l, rfl, hq, rl, rd, pd, pl, q⟩ := h
  cases ry
  have hu' : X.A.in1.units + 8 < cLine := by show X.A.units + 1 + 8 < cLine; omega
  rcases hq with hq | hq
  · obtain ⟨its, r, pll, hz⟩ := I.list (SqL.of hq)
    refine SeqAt.in_listAt (itemEq X.K H l d) pll.isList (fun w hw => mem_itemEq I pd rd rx hu' pl (fun _ h => h) rl r w (by simpa using hw)) ⟨.bl _, H, I, rfl, ?_⟩
    rw [show its.toArray.any (itemEq X.K H l d) = its.any (itemEq X.K H l d) by simp, any_itemEq I pl (fun _ h => h) rl r]
    exact q
  · obtain ⟨its, r, pll, hz⟩ := I.tuple hq
    refine SeqAt.in_tupleAt (itemEq X.K H l d) pll (fun w hw => mem_itemEq I pd rd rx hu' pl (fun _ h => h) rl r w (by simpa using hw)) ⟨.bl _, H, I, rfl, ?_⟩
    rw [show its.toArray.any (itemEq X.K H l d) = its.any (itemEq X.K H l d) by simp, any_itemEq I pl (fun _ h => h) rl r]
    exact q
theorem op_notInD (hu : X.A.units + 9 < cLine) : OpR X (compareOp .NotIn) (rInD X.K true) := by
  intro pins s σ H x y v u Q I rx ry h
  obtain ⟨p, vs, d, l, rfl, hq, rl, rd, pd, pl, q⟩ := h
  cases ry
  have hu' : X.A.in1.units + 8 < cLine := by show X.A.units + 1 + 8 < cLine; omega
  rcases hq with hq | hq
  · obtain ⟨its, r, pll, hz⟩ := I.list (SqL.of hq)
    refine SeqAt.notIn_listAt (itemEq X.K H l d) pll.isList (fun w hw => mem_itemEq I pd rd rx hu' pl (fun _ h => h) rl r w (by simpa using hw)) ⟨.bl _, H, I, rfl, ?_⟩
    rw [show its.toArray.any (itemEq X.K H l d) = its.any (itemEq X.K H l d) by simp, any_itemEq I pl (fun _ h => h) rl r]
    exact q
  · obtain ⟨its, r, pll, hz⟩ := I.tuple hq
    refine SeqAt.notIn_tupleAt (itemEq X.K H l d) pll (fun w hw => mem_itemEq I pd rd rx hu' pl (fun _ h => h) rl r w (by simpa using hw)) ⟨.bl _, H, I, rfl, ?_⟩
    rw [show its.toArray.any (itemEq X.K H l d) = its.any (itemEq X.K H l d) by simp, any_itemEq I pl (fun _ h => h) rl r]
    exact q
end
end TF
namespace TF
open PySem PySem.Spec L2
open PyProof.Rows hiding St RelV
section
variable {X : Cx} {ρ : Rho} {G : Gs} {e a b c : Expr} {es : List Expr} {d d' d1 d2 : Dat} {ds l m : List Dat} {pos : Pos} {i j k : Int}
theorem px_add (ha : PX X ρ G a (.int i)) (hb : PX X ρ G b (.int j)) : PX X ρ G (.BinOp a .Add b pos) (.int (i + j)) := px_op op_add ha hb fun H x y Q o hx hy k => ⟨i, j, hx, hy, k _ _ (po1' o rfl)⟩
theorem px_sub (ha : PX X ρ G a (.int i)) (hb : PX X ρ G b (.int j)) : PX X ρ G (.BinOp a .Sub b pos) (.int (i - j)) := px_op op_sub ha hb fun H x y Q o hx hy k => ⟨i, j, hx, hy, k _ _ (po1' o rfl)⟩
theorem px_mul (ha : PX X ρ G a (.int i)) (hb : PX X ρ G b (.int j)) (hc : CMul i j) : PX X ρ G (.BinOp a .Mult b pos) (.int (i * j)) := px_op op_mul ha hb fun H x y Q o hx hy k => ⟨i, j, hx, hy, hc, k _ _ (po1' o rfl)⟩
theorem px_mod (ha : PX X ρ G a (.int i)) (hb : PX X ρ G b (.int j)) (hc : 0 < j) : PX X ρ G (.BinOp a .Mod b pos) (.int (i % j)) := px_op op_mod ha hb fun H x y Q o hx hy k => ⟨i, j, hx, hy, hc, k _ _ (po1' o rfl)⟩
theorem px_fdiv (ha : PX X ρ G a (.int i)) (hb : PX X ρ G b (.int j)) (hc : CDiv i j) : PX X ρ G (.BinOp a .FloorDiv b pos) (.int (i / j)) := px_op op_fdiv ha hb fun H x y Q o hx hy k => ⟨i, j, hx, hy, hc, k _ _ (po1' o rfl)⟩
theorem px_neg (ha : PX X ρ G a (.int i)) : PX X ρ G (.UnaryOp .USub a pos) (.int (-i)) :=
  we_pe (pe_un un_neg pe_we) fun σ H S => ⟨ρ, G, _, ha, S, fun x H1 ⟨_, _, e1, o1, r1, q1, q1'⟩ => by
    subst q1; subst q1'
    exact ⟨i, r1, Po.trans e1 (po1' o1 rfl)⟩⟩
def PXC (X : Cx) (ρ : Rho) (G : Gs) (op : CmpOp) (a b : Expr) (d : Dat) : Prop :=
  ∀ (pins : List (Addr × Obj)) (s : Shared) (σ : St) (H : Hp), Inv X pins σ H s → Stt X H σ ρ G →
    wpAny (model X.prog X.w) X.A (eval a X.env) (fun v s₁ => wpAny (model X.prog X.w) X.A (eval b X.env) (fun u s₂ => wpAny (model X.prog X.w) X.A (compareOp op v u) (EP X pins σ (Po X H G fun d' G' => d' = d ∧ G' = G)) X.xe s₂) X.xe s₁) X.xe s
theorem pxc_op {op : CmpOp} {r : R2} (ho : OpR X (compareOp op) r) (ha : PX X ρ G a d1) (hb : PX X ρ G b d2)
    (hr : ∀ (H : Hp) (x y : V) (Q : VK), GOk X.K H G → Rep X.K (hid H G) d1 x → Rep X.K (hid H G) d2 y → (∀ v H', Po X H G (fun d' G' => d' = d ∧ G' = G) v H' → Q v H') → r x y H Q) : PXC X ρ G op a b d := by
  intro pins s σ H I S
  refine thn (ha pins s σ H I S) fun v s1 ⟨x, H1, I1, rx, _, _, e1, o1, r1, q1, q1'⟩ => ?_
  subst q1; subst q1'
  refine thn (hb pins s1 σ H1 I1 (S.ext e1 o1)) fun u s2 ⟨y, H2, I2, ry, _, _, e2, o2, r2, q2, q2'⟩ => ?_
  subst q2; subst q2'
  exact ho pins s2 σ H2 x y v u _ I2 rx ry (hr H2 x y _ o2 (r1.same e2.hid) r2 fun v H' z => Po.trans (e1.trans e2) z)
theorem px_c {op : CmpOp} (h : PXC X ρ G op a b d) (hm : behindInMarks op b = false := by first | exact nobehind _ (by decide) (by decide) | rfl) : PX X ρ G (.Compare a [op] [b] pos) d := fun pins s σ H I S => wpAny_Compare1 (h pins s σ H I S) hm
theorem pxt_c {op : CmpOp} {p : Bool} (h : PXC X ρ G op a b (.bl p)) (hm : behindInMarks op b = false := by first | exact nobehind _ (by decide) (by decide) | rfl) : PXT X ρ G (.Compare a [op] [b] pos) p := by
  intro pins s σ H I S
  refine wpAny_isTrue_Compare1 (thn (h pins s σ H I S) fun v s1 h1 => thn h1 fun u s2 h2 => thn h2 fun c s3 ⟨x, H1, I1, r1, _, _, e1, o1, q1, q2, q2'⟩ => ?_) hm
  subst q2; subst q2'
  cases (show x = V.bl p from q1)
  cases r1
  exact wpAny_truthy_bool ⟨H1, I1, _, e1, o1, rfl, rfl⟩
theorem pxc_lt (ha : PX X ρ G a (.int i)) (hb : PX X ρ G b (.int j)) : PXC X ρ G .Lt a b (.bl (decide (i < j))) := pxc_op op_lt ha hb fun H x y Q o hx hy k => ⟨i, j, hx, hy, k _ _ (po1' o rfl)⟩
theorem pxc_gt (ha : PX X ρ G a (.int i)) (hb : PX X ρ G b (.int j)) : PXC X ρ G .Gt a b (.bl (decide (j < i))) := pxc_op op_gt ha hb fun H x y Q o hx hy k => ⟨i, j, hx, hy, k _ _ (po1' o rfl)⟩
theorem pxc_eqI (ha : PX X ρ G a (.int i)) (hb : PX X ρ G b (.int j)) : PXC X ρ G .Eq a b (.bl (i == j)) :=
  pxc_op op_eq ha hb fun H x y Q o hx hy k => by
    cases (show x = V.int i from hx); cases (show y = V.int j from hy)
    exact ⟨rfl, by rw [dec_int]; exact k _ _ (po1' o rfl)⟩
theorem pxc_neI (ha : PX X ρ G a (.int i)) (hb : PX X ρ G b (.int j)) : PXC X ρ G .NotEq a b (.bl (!(i == j))) :=
  pxc_op op_ne ha hb fun H x y Q o hx hy k => by
    cases (show x = V.int i from hx); cases (show y = V.int j from hy)
    exact ⟨rfl, by rw [dec_int]; exact k _ _ (po1' o rfl)⟩
theorem pxc_eq (hu : X.A.units + 9 < cLine) (ha : PX X ρ G a d1) (hb : PX X ρ G b d2) (p1 : plainD 9 d1 = true) (p2 : plainD 9 d2 = true) : PXC X ρ G .Eq a b (.bl (eqD d1 d2)) :=
  pxc_op (op_eqD hu) ha hb fun H x y Q o hx hy k => ⟨d1, d2, hx.same hid_le, hy.same hid_le, p1, p2, k _ _ (po1' o rfl)⟩
theorem in_of {H : Hp} {K : PySem.W.Frag} {y : V} (hy : Rep K (hid H G) (.tup l) y ∨ Rep K (hid H G) (.lst l) y) : ∃ p vs, y = .ref p ∧ (H p = some (.lst vs) ∨ SqT K H p vs) ∧ RepL K H l vs := by
  rcases hy with hy | hy
  · rw [Rep] at hy
    obtain ⟨p, vs, e, h1, h2⟩ := hy
    exact ⟨p, vs, e, .inr (sqT_same hid_le h1), h2.same hid_le⟩
  · rw [Rep] at hy
    obtain ⟨p, vs, e, h1, h2⟩ := hy
    exact ⟨p, vs, e, .inl (hid_le _ _ h1), h2.same hid_le⟩
theorem px_one {op} (h : PX X ρ G a d) : PX X ρ G (.BoolOp op [a] pos) d := fun pins s σ H I S => BoolOp_one (h pins s σ H I S)
theorem px_and {rest : List Expr} {p q : Bool} (ha : PX X ρ G a (.bl p)) (hb : p = true → PX X ρ G (.BoolOp .And (b :: rest) pos) (.bl q)) : PX X ρ G (.BoolOp .And (a :: b :: rest) pos) (.bl (p && q)) := by
  intro pins s σ H I S
  refine BoolOp_and (thn (ha pins s σ H I S) fun v s1 ⟨x, H1, I1, r1, _, _, e1, o1, rx, q1, q1'⟩ => ?_)
  subst q1; subst q1'
  cases (show x = V.bl p from rx)
  cases r1
  refine wpAny_truthy_bool ?_
  cases p with
  | true => exact thn (hb rfl pins s1 σ H1 I1 (S.ext e1 o1)) fun _ _ z => EP.mono z fun _ _ y => Po.trans e1 y
  | false => exact ⟨.bl false, H1, I1, rfl, .bl false, _, e1, o1, rfl, rfl, rfl⟩
def PXW (X : Cx) (ρ : Rho) (G : Gs) (e : Expr) (b : Bool) : Prop :=
  ∀ (whole : Sem Value) (pins : List (Addr × Obj)) (s : Shared) (σ : St) (H : Hp), Inv X pins σ H s → Stt X H σ ρ G → wpAny (model X.prog X.w) X.A (isTrue e X.env whole) (TP X pins σ (PoT X H G fun b' G' => b' = b ∧ G' = G)) X.xe s
theorem PXW.t {p : Bool} (h : PXW X ρ G e p) : PXT X ρ G e p := fun pins s σ H I S => h _ pins s σ H I S
theorem pxt_mono {p : Bool} {Q : Bool → Gs → Prop} (h : PXT X ρ G e p) (q : Q p G) : WT X ρ G e Q := fun pins s σ H I S => thn (h pins s σ H I S) fun _ _ z => TP.mono z fun _ _ ⟨_, e, o, q1, q2⟩ => by
  subst q1; subst q2; exact ⟨_, e, o, q⟩
theorem pxw_and1 {p : Bool} (h : PXT X ρ G a p) : PXW X ρ G (.BoolOp .And [a] pos) p := by
  intro wh pins s σ H I S
  refine isTrue_and (thn (h pins s σ H I S) fun c s1 e => ?_)
  cases c with
  | true => exact isTrue_and_nil e
  | false => exact e
theorem pxw_or1 {p : Bool} (h : PXT X ρ G a p) : PXW X ρ G (.BoolOp .Or [a] pos) p := by
  intro wh pins s σ H I S
  refine isTrue_or (thn (h pins s σ H I S) fun c s1 e => ?_)
  cases c with
  | false => exact isTrue_or_nil e
  | true => exact e
theorem pxw_and {rest : List Expr} {p q : Bool} (ha : PXT X ρ G a p) (hb : p = true → PXW X ρ G (.BoolOp .And (b :: rest) pos) q) : PXW X ρ G (.BoolOp .And (a :: b :: rest) pos) (p && q) := by
  intro wh pins s σ H I S
  refine isTrue_and (thn (ha pins s σ H I S) fun c s1 ⟨H1, I1, _, e1, o1, q1, q2⟩ => ?_)
  subst q1; subst q2
  cases c with
  | true => exact thn (hb rfl wh pins s1 σ H1 I1 (S.ext e1 o1)) fun _ _ z => TP.mono z fun _ _ y => PoT.trans e1 y
  | false => exact ⟨H1, I1, _, e1, o1, rfl, rfl⟩
theorem pxw_or {rest : List Expr} {p q : Bool} (ha : PXT X ρ G a p) (hb : p = false → PXW X ρ G (.BoolOp .Or (b :: rest) pos) q) : PXW X ρ G (.BoolOp .Or (a :: b :: rest) pos) (p || q) := by
  intro wh pins s σ H I S
  refine isTrue_or (thn (ha pins s σ H I S) fun c s1 ⟨H1, I1, _, e1, o1, q1, q2⟩ => ?_)
  subst q1; subst q2
  cases c with
  | false => exact thn (hb rfl wh pins s1 σ H1 I1 (S.ext e1 o1)) fun _ _ z => TP.mono z fun _ _ y => PoT.trans e1 y
  | true => exact ⟨H1, I1, _, e1, o1, rfl, rfl⟩
theorem pxt_not {p : Bool} (ha : PXT X ρ G a p) : PXT X ρ G (.UnaryOp .Not a pos) (!p) := by
  intro pins s σ H I S
  refine isTrue_not (Q := TP X pins σ (PoT X H G fun b' G' => b' = (!p) ∧ G' = G)) (thn (ha pins s σ H I S) fun c s1 ⟨H1, I1, _, e1, o1, q1, q2⟩ => ?_)
  subst q1; subst q2
  exact ⟨H1, I1, _, e1, o1, rfl, rfl⟩
theorem pxt_val {p : Bool} (h : PX X ρ G e (.bl p)) (he : ∀ whole, isTrue e X.env whole = (do let v ← whole; standAt e.pos; holding [v] (truthy v)) := by intro _; rfl) : PXT X ρ G e p := by
  intro pins s σ H I S
  refine isTrue_plain (thn (h pins s σ H I S) fun v s1 ⟨x, H1, I1, r1, _, _, e1, o1, rx, q1, q1'⟩ => ?_) (he _)
  subst q1; subst q1'
  cases (show x = V.bl p from rx)
  cases r1
  exact wpAny_truthy_bool ⟨H1, I1, _, e1, o1, rfl, rfl⟩
def truD : Dat → Option Bool
  | .non => some false
  | .bl b => some b
  | .int i => some (i != 0)
  | .tup l => some (!l.isEmpty)
  | .lst l => some (!l.isEmpty)
  | _ => none
theorem truV_of {K : PySem.W.Frag} {H : Hp} {v : V} {p : Bool} (h : truD d = some p) (r : Rep K (hid H G) d v) : TruV K v H p := by
  cases d <;> simp only [truD, Option.some.injEq, reduceCtorEq] at h <;> subst h <;> rw [Rep] at r
  · subst r; rfl
  · subst r; rfl
  · subst r; rfl
  · obtain ⟨a, vs, rfl, h1, h2⟩ := r
    refine .inr (.inl ⟨vs, sqT_same hid_le h1, ?_⟩)
    have := h2.length
    rename_i l
    cases l <;> cases vs <;> simp_all
  · obtain ⟨a, vs, rfl, h1, h2⟩ := r
    refine .inl ⟨vs, SqL.of (hid_le _ _ h1), ?_⟩
    have := h2.length
    rename_i l
    cases l <;> cases vs <;> simp_all
theorem pxt_truth {p : Bool} (h : PX X ρ G e d) (ht : truD d = some p) (he : ∀ whole, isTrue e X.env whole = (do let v ← whole; standAt e.pos; holding [v] (truthy v)) := by intro _; rfl) : PXT X ρ G e p :=
  wt_pt (pt_truth pe_we he) fun σ H S => ⟨ρ, G, _, h, S, fun x H1 ⟨_, _, e1, o1, r1, q1, q1'⟩ => by
    subst q1; subst q1'
    exact ⟨p, truV_of ht r1, _, e1, o1, rfl, rfl⟩⟩
theorem pxs_nil : PXs X ρ G [] [] := wa_pa pa_nil fun σ H S => ⟨[], G, Ext.refl, S.own, RepL.nil, rfl, rfl⟩
theorem pxs_cons (ha : PX X ρ G e d) (hr : PXs X ρ G es ds) (hs : starEach (e :: es) X.env = (false, eval e X.env) :: starEach es X.env := by rfl) : PXs X ρ G (e :: es) (d :: ds) :=
  wa_pa (pa_cons pe_we pa_wa hs) fun σ H S => ⟨ρ, G, _, ha, S, fun x H1 ⟨_, _, e1, o1, r1, q1, q1'⟩ => by
    subst q1; subst q1'
    refine ⟨ρ, _, _, hr, S.ext e1 o1, fun xs H2 ⟨_, _, e2, o2, r2, q2, q2'⟩ => ?_⟩
    subst q2; subst q2'
    exact ⟨_, _, e1.trans e2, o2, RepL.cons (r1.same e2.hid) r2, rfl, rfl⟩⟩
theorem new_tup {H : Hp} {p : Addr} {vs : List V} (o : GOk X.K H G) (hp : H p = none) (r : RepL X.K (hid H G) ds vs) : Po X H G (fun d' G' => d' = .tup ds ∧ G' = G) (.ref p) (upd H p (.tup vs)) :=
  po1 (Ext.alloc hp) (o.alloc hp) (by rw [Rep]; exact ⟨p, vs, rfl, SqT.of (hid_of (o.free hp) upd_same), r.same (Ext.alloc hp).hid⟩)
theorem new_lst {H : Hp} {p : Addr} {vs : List V} (o : GOk X.K H G) (hp : H p = none) (r : RepL X.K (hid H G) ds vs) : Po X H G (fun d' G' => d' = .lst ds ∧ G' = G) (.ref p) (upd H p (.lst vs)) :=
  po1 (Ext.alloc hp) (o.alloc hp) (by rw [Rep]; exact ⟨p, vs, rfl, hid_of (o.free hp) upd_same, r.same (Ext.alloc hp).hid⟩)
theorem px_tup {x1} (h : PXs X ρ G es ds) (hz : ds.length ≤ 1000 := by first | decide | (simp; done)) : PX X ρ G (.Tuple es x1 pos) (.tup ds) :=
  we_pe (pe_tup pa_wa) fun σ H S => ⟨ρ, G, _, h, S, fun vs H1 ⟨_, _, e1, o1, r1, q1, q1'⟩ => by
    subst q1; subst q1'
    exact ⟨by rw [r1.length]; exact Nat.le_of_lt (small1000 hz), fun p hp => Po.trans e1 (new_tup o1 hp r1)⟩⟩
theorem px_lst (h : PXs X ρ G es ds) (hz : ds.length ≤ 1000 := by first | decide | (simp; done)) : PX X ρ G (.List es pos) (.lst ds) :=
  we_pe (pe_lst pa_wa) fun σ H S => ⟨ρ, G, _, h, S, fun vs H1 ⟨_, _, e1, o1, r1, q1, q1'⟩ => by
    subst q1; subst q1'
    exact ⟨by rw [r1.length]; exact Nat.le_of_lt (small1000 hz), fun p hp => Po.trans e1 (new_lst o1 hp r1)⟩⟩
theorem px_cat (ha : PX X ρ G a (.lst l)) (hb : PX X ρ G b (.lst m)) (hz : l.length + m.length ≤ sizeLine) : PX X ρ G (.BinOp a .Add b pos) (.lst (l ++ m)) :=
  px_op op_cat ha hb fun H x y Q o hx hy k => by
    rw [Rep] at hx hy
    obtain ⟨p, vs, e1, h1, r1⟩ := hx
    obtain ⟨q, us, e2, h2, r2⟩ := hy
    exact ⟨p, q, vs, us, e1, e2, hid_le _ _ h1, hid_le _ _ h2, by rw [r1.length, r2.length]; exact hz, fun t ht => k _ _ (new_lst o ht (r1.append r2))⟩
theorem atI_rep {K : PySem.W.Frag} {H : Hp} {vs : List V} (r : RepL K H l vs) (h : atI l i = some d) : ∃ v, atI vs i = some v ∧ Rep K H d v := by
  unfold atI at h ⊢
  rw [r.length]
  cases q : ixN l.length i with
  | none => rw [q] at h; cases h
  | some j => rw [q] at h; exact r.get h
theorem px_ixT (ha : PX X ρ G a (.tup l)) (hb : PX X ρ G b (.int i)) (hi : atI l i = some d) (hs : PlainIx b := by intro _ _; rfl) : PX X ρ G (.Subscript a b pos) d :=
  we_pe (pe_ix ix_tup pe_we pe_we hs) fun σ H S => ⟨ρ, G, _, ha, S, fun x H1 ⟨_, _, e1, o1, r1, q1, q1'⟩ => by
    subst q1; subst q1'
    refine ⟨ρ, _, _, hb, S.ext e1 o1, fun y H2 ⟨_, _, e2, o2, r2, q2, q2'⟩ => ?_⟩
    subst q2; subst q2'
    have r1 := r1.same e2.hid
    rw [Rep] at r1
    obtain ⟨p, vs, e3, h3, r3⟩ := r1
    obtain ⟨v, h4, r4⟩ := atI_rep r3 hi
    exact ⟨p, vs, i, v, e3, r2, sqT_same hid_le h3, h4, Po.trans (e1.trans e2) (po1' o2 r4)⟩⟩
theorem px_ixL (ha : PX X ρ G a (.lst l)) (hb : PX X ρ G b (.int i)) (hi : atI l i = some d) (hs : PlainIx b := by intro _ _; rfl) : PX X ρ G (.Subscript a b pos) d :=
  we_pe (pe_ix ix_list pe_we pe_we hs) fun σ H S => ⟨ρ, G, _, ha, S, fun x H1 ⟨_, _, e1, o1, r1, q1, q1'⟩ => by
    subst q1; subst q1'
    refine ⟨ρ, _, _, hb, S.ext e1 o1, fun y H2 ⟨_, _, e2, o2, r2, q2, q2'⟩ => ?_⟩
    subst q2; subst q2'
    have r1 := r1.same e2.hid
    rw [Rep] at r1
    obtain ⟨p, vs, e3, h3, r3⟩ := r1
    obtain ⟨v, h4, r4⟩ := atI_rep r3 hi
    exact ⟨p, vs, i, v, e3, r2, SqL.of (hid_le _ _ h3), h4, Po.trans (e1.trans e2) (po1' o2 r4)⟩⟩
theorem px_ixS {ns : List Int} {z : Int} (ha : PX X ρ G a (.scr ns)) (hb : PX X ρ G b (.int i)) (hi : atI ns i = some z) (hs : PlainIx b := by intro _ _; rfl) : PX X ρ G (.Subscript a b pos) (.int z) :=
  we_pe (pe_ix ix_list pe_we pe_we hs) fun σ H S => ⟨ρ, G, _, ha, S, fun x H1 ⟨_, _, e1, o1, r1, q1, q1'⟩ => by
    subst q1; subst q1'
    refine ⟨ρ, _, _, hb, S.ext e1 o1, fun y H2 ⟨_, _, e2, o2, r2, q2, q2'⟩ => ?_⟩
    subst q2; subst q2'
    have r1 := r1.same e2.hid
    rw [Rep] at r1
    obtain ⟨p, e3, h3⟩ := r1
    refine ⟨p, _, i, V.int z, e3, r2, Same.seq hid_le h3, ?_, Po.trans (e1.trans e2) (po1' o2 rfl)⟩
    unfold atI at hi ⊢
    rw [List.length_map]
    cases q : ixN ns.length i with
    | none => rw [q] at hi; cases hi
    | some j => rw [q] at hi; show (ns.map V.int)[j]? = _; rw [List.getElem?_map, show ns[j]? = some z from hi]; rfl⟩
theorem px_call1 {f : Str} {id : String} {r : List V → Hp → VK → Prop} {p : Pos} (hc : CallR X (.builtin id) r) (hg : Gl X f) (hm : X.mg f = none) (hv : bootBuiltins f = some (.builtin id)) (ha : PX X ρ G a d1)
    (hr : ∀ (H : Hp) (x : V) (Q : VK), GOk X.K H G → Rep X.K (hid H G) d1 x → (∀ v H', Po X H G (fun d' G' => d' = d ∧ G' = G) v H' → Q v H') → r [x] H Q)
    (hn : f ≠ "__name__" := by decide) (hdb : (f == ("__debug__" : Str)) = false := by decide) (he : starEach [a] X.env = (false, eval a X.env) :: starEach [] X.env := by rfl) : PX X ρ G (.Call (.Name f p) [a] [] pos) d :=
  we_pe (pe_callB hc hg hm hv (pa_cons pe_we pa_nil he) hn hdb he rfl) fun σ H S => ⟨ρ, G, _, ha, S, fun x H1 ⟨_, _, e1, o1, r1, q1, q1'⟩ => by
    subst q1; subst q1'
    exact hr H1 x _ o1 r1 fun v H' z => Po.trans e1 z⟩
theorem px_callT1 {f : Str} {T : String} {r : List V → Hp → VK → Prop} {p : Pos} (hc : CallR X (.type T) r) (hg : Gl X f) (hm : X.mg f = none) (hv : bootBuiltins f = some (.type T)) (ha : PX X ρ G a d1)
    (hr : ∀ (H : Hp) (x : V) (Q : VK), GOk X.K H G → Rep X.K (hid H G) d1 x → (∀ v H', Po X H G (fun d' G' => d' = d ∧ G' = G) v H' → Q v H') → r [x] H Q)
    (hn : f ≠ "__name__" := by decide) (hdb : (f == ("__debug__" : Str)) = false := by decide) (he : starEach [a] X.env = (false, eval a X.env) :: starEach [] X.env := by rfl) : PX X ρ G (.Call (.Name f p) [a] [] pos) d :=
  we_pe (pe_callTy hc hg hm hv (pa_cons pe_we pa_nil he) hn hdb he rfl) fun σ H S => ⟨ρ, G, _, ha, S, fun x H1 ⟨_, _, e1, o1, r1, q1, q1'⟩ => by
    subst q1; subst q1'
    exact hr H1 x _ o1 r1 fun v H' z => Po.trans e1 z⟩
def lenD (G : Gs) : Dat → Option Nat
  | .tup l => some l.length
  | .lst l => some l.length
  | .scr ns => some ns.length
  | .fn p => match G p with | some (.lst l) => some l.length | _ => none
  | _ => none
theorem lenD_of {K : PySem.W.Frag} {H : Hp} {v : V} {n : Nat} (h : lenD G d = some n) (o : GOk K H G) (r : Rep K (hid H G) d v) : ∃ p ys, v = .ref p ∧ (SqL K H p ys ∨ SqT K H p ys) ∧ ys.length = n := by
  cases d <;> simp only [lenD, Option.some.injEq, reduceCtorEq] at h <;> rw [Rep] at r
  · split at h
    · rename_i p l hG
      cases h
      obtain ⟨vs, h3, r3⟩ := o _ _ hG
      exact ⟨_, vs, r, .inl (SqL.of h3), r3.length⟩
    · cases h
  · obtain ⟨p, e, q⟩ := r
    exact ⟨p, _, e, .inl (Same.seq hid_le q), by rw [List.length_map]; exact h⟩
  · obtain ⟨p, vs, e, q, r⟩ := r
    exact ⟨p, vs, e, .inr (sqT_same hid_le q), by rw [r.length]; exact h⟩
  · obtain ⟨p, vs, e, q, r⟩ := r
    exact ⟨p, vs, e, .inl (SqL.of (hid_le _ _ q)), by rw [r.length]; exact h⟩
theorem px_len {n : Nat} {p : Pos} (hg : Gl X "len") (hm : X.mg "len" = none) (ha : PX X ρ G a d1) (h : lenD G d1 = some n) (he : starEach [a] X.env = (false, eval a X.env) :: starEach [] X.env := by rfl) : PX X ρ G (.Call (.Name "len" p) [a] [] pos) (.int n) :=
  px_call1 call_len_seq hg hm PySem.boot_len ha (fun H x Q o r k => by
    obtain ⟨q, ys, e, hq, hl⟩ := lenD_of h o r
    exact ⟨q, ys, by rw [e], hq, k _ _ (po1' o (by rw [hl]; rfl))⟩) (he := he)
theorem px_tupleL {p : Pos} (hg : Gl X "tuple") (hm : X.mg "tuple" = none) (hv : bootBuiltins "tuple" = some (.type "tuple")) (ha : PX X ρ G a (.lst l)) (he : starEach [a] X.env = (false, eval a X.env) :: starEach [] X.env := by rfl) : PX X ρ G (.Call (.Name "tuple" p) [a] [] pos) (.tup l) :=
  px_callT1 call_tuple_of hg hm hv ha (fun H x Q o r k => by
    rw [Rep] at r
    obtain ⟨q, vs, e, h1, r1⟩ := r
    exact ⟨q, vs, by rw [e], .inl ⟨SqL.of (hid_le _ _ h1), fun t ht => k _ _ (new_tup o ht r1)⟩⟩) (he := he)
theorem px_listT {p : Pos} (hg : Gl X "list") (hm : X.mg "list" = none) (hv : bootBuiltins "list" = some (.type "list")) (ha : PX X ρ G a (.tup l)) (he : starEach [a] X.env = (false, eval a X.env) :: starEach [] X.env := by rfl) : PX X ρ G (.Call (.Name "list" p) [a] [] pos) (.lst l) :=
  px_callT1 call_list_of hg hm hv ha (fun H x Q o r k => by
    rw [Rep] at r
    obtain ⟨q, vs, e, h1, r1⟩ := r
    exact ⟨q, vs, by rw [e], .inr (sqT_same hid_le h1), fun t ht => k _ _ (new_lst o ht r1)⟩) (he := he)
end
end TF
namespace TF
open PySem PySem.Spec L2
open PyProof.Rows hiding St RelV
structure DE where
  nx : Rho → Gs → Prop
  rt : Dat → Gs → Prop
  bk : Rho → Gs → Prop := fun _ _ => False
  ct : Rho → Gs → Prop := fun _ _ => False
def lft (X : Cx) (H : Hp) (G : Gs) (q : Rho → Gs → Prop) : St → Hp → Prop := fun σ' H' => ∃ ρ' G', Ext H G H' G' ∧ Stt X H' σ' ρ' G' ∧ q ρ' G'
def lift (X : Cx) (H : Hp) (G : Gs) (D : DE) : Ends where
  nx := lft X H G D.nx
  rt := Po X H G D.rt
  bk := lft X H G D.bk
  ct := lft X H G D.ct
def WS (X : Cx) (ρ : Rho) (G : Gs) (st : Stmt) (D : DE) : Prop :=
  ∀ (pins : List (Addr × Obj)) (s : Shared) (σ : St) (H : Hp), Inv X pins σ H s → Stt X H σ ρ G → wpAny (model X.prog X.w) X.A (exec st X.env) (SP X pins (lift X H G D)) X.xe s
def WSs (X : Cx) (ρ : Rho) (G : Gs) (st : List Stmt) (D : DE) : Prop :=
  ∀ (pins : List (Addr × Obj)) (s : Shared) (σ : St) (H : Hp), Inv X pins σ H s → Stt X H σ ρ G → wpAny (model X.prog X.w) X.A (execs st X.env) (SP X pins (lift X H G D)) X.xe s
theorem SP.le {X : Cx} {pins : List (Addr × Obj)} {D D' : Ends} {f : Flow} {s : Shared} (h : SP X pins D f s) (h1 : ∀ σ H, D.nx σ H → D'.nx σ H) (h2 : ∀ v H, D.rt v H → D'.rt v H) (h3 : ∀ σ H, D.bk σ H → D'.bk σ H) (h4 : ∀ σ H, D.ct σ H → D'.ct σ H) : SP X pins D' f s := by
  cases f with
  | next => obtain ⟨σ, H, I, q⟩ := h; exact ⟨σ, H, I, h1 _ _ q⟩
  | brk => obtain ⟨σ, H, I, q⟩ := h; exact ⟨σ, H, I, h3 _ _ q⟩
  | cont => obtain ⟨σ, H, I, q⟩ := h; exact ⟨σ, H, I, h4 _ _ q⟩
  | ret u => obtain ⟨v, σ, H, I, r, q⟩ := h; exact ⟨v, σ, H, I, r, h2 _ _ q⟩
theorem lft_trans {X : Cx} {H H1 : Hp} {G G1 : Gs} {q : Rho → Gs → Prop} (e : Ext H G H1 G1) {σ : St} {H' : Hp} (h : lft X H1 G1 q σ H') : lft X H G q σ H' := let ⟨ρ', G', e', S, q⟩ := h; ⟨ρ', G', e.trans e', S, q⟩
theorem lft_mono {X : Cx} {H : Hp} {G : Gs} {q q' : Rho → Gs → Prop} (k : ∀ ρ G, q ρ G → q' ρ G) {σ : St} {H' : Hp} (h : lft X H G q σ H') : lft X H G q' σ H' := let ⟨ρ', G', e', S, q⟩ := h; ⟨ρ', G', e', S, k _ _ q⟩
theorem SP.trans {X : Cx} {pins : List (Addr × Obj)} {D : DE} {f : Flow} {s : Shared} {H H1 : Hp} {G G1 : Gs} (e : Ext H G H1 G1) (h : SP X pins (lift X H1 G1 D) f s) : SP X pins (lift X H G D) f s :=
  SP.le h (fun _ _ q => lft_trans e q) (fun _ _ q => Po.trans e q) (fun _ _ q => lft_trans e q) (fun _ _ q => lft_trans e q)
section
variable {X : Cx} {ρ : Rho} {G : Gs} {e a b c : Expr} {es : List Expr} {d d' d1 d2 : Dat} {ds l m : List Dat} {pos : Pos} {D : DE} {rest body : List Stmt} {st : Stmt}
theorem wss_nil (h : D.nx ρ G) : WSs X ρ G [] D := fun pins s σ H I S => wpAny_execs_nil ⟨σ, H, I, ρ, G, Ext.refl, S, h⟩
theorem wss_cons (h : WS X ρ G st { D with nx := fun ρ' G' => WSs X ρ' G' rest D }) : WSs X ρ G (st :: rest) D := by
  intro pins s σ H I S
  refine wpAny_execs_cons (thn (h pins s σ H I S) fun f s1 q => ?_)
  cases f with
  | next =>
    obtain ⟨σ', H', I', ρ', G', e', S', q⟩ := q
    exact thn (q pins s1 σ' H' I' S') fun _ _ z => SP.trans e' z
  | ret v => exact q
  | brk => exact q
  | cont => exact q
theorem ws_ps {t : TS} (h : PS X st t) (hq : ∀ σ H, Stt X H σ ρ G → t (lift X H G D) σ H) : WS X ρ G st D := fun pins s σ H I S => h pins s σ H _ I (hq σ H S)
def tWSs (X : Cx) (st : List Stmt) : TS := fun D' σ H => ∃ ρ G D, WSs X ρ G st D ∧ Stt X H σ ρ G ∧ (∀ σ' H', (lift X H G D).nx σ' H' → D'.nx σ' H') ∧ (∀ v H', (lift X H G D).rt v H' → D'.rt v H') ∧ (∀ σ' H', (lift X H G D).bk σ' H' → D'.bk σ' H') ∧ (∀ σ' H', (lift X H G D).ct σ' H' → D'.ct σ' H')
theorem pss_ws {st : List Stmt} : PSs X st (tWSs X st) := fun pins s σ H D' I ⟨ρ, G, D, h, S, h1, h2, h3, h4⟩ => thn (h pins s σ H I S) fun _ _ q => SP.le q h1 h2 h3 h4
theorem WSs.mono {st : List Stmt} {D' : DE} (h : WSs X ρ G st D) (h1 : ∀ ρ G, D.nx ρ G → D'.nx ρ G) (h2 : ∀ d G, D.rt d G → D'.rt d G) (h3 : ∀ ρ G, D.bk ρ G → D'.bk ρ G) (h4 : ∀ ρ G, D.ct ρ G → D'.ct ρ G) : WSs X ρ G st D' := fun pins s σ H I S =>
  thn (h pins s σ H I S) fun _ _ q => SP.le q (fun _ _ z => lft_mono h1 z) (fun _ _ z => Po.mono z h2) (fun _ _ z => lft_mono h3 z) (fun _ _ z => lft_mono h4 z)
theorem wss_retE (h : WE X ρ G e D.rt) : WSs X ρ G (.Return (some e) pos :: rest) D := wss_cons fun pins s σ H I S =>
  wpAny_Return_some (thn (h pins s σ H I S) fun v s1 ⟨x, H1, I1, r1, q1⟩ => ⟨x, σ, H1, I1, r1, q1⟩)
theorem wss_ret (h : PX X ρ G e d) (q : D.rt d G) : WSs X ρ G (.Return (some e) pos :: rest) D := wss_retE (h.we q)
theorem wss_setE (i : Nat) {x : Str} {pos' : Pos} (hN : X.N.Nodup) (h : WE X ρ G e fun d G' => WSs X (ρ.set i (some d)) G' rest D) (hi : X.N[i]? = some x := by rfl) (hx : Loc X.env.scope x := by first | exact Or.inl rfl | exact Or.inr rfl)
    (hs : swapsWith e (some (.Name x pos')) pos.line X.env = pure false := by rfl) (hf : X.fn x = true ∨ X.env.scope.names.lookup x = some .local := by first | exact .inl rfl | exact .inr rfl | assumption) : WSs X ρ G (.Assign [.Name x pos'] e pos :: rest) D :=
  wss_cons (ws_ps (ps_set (i := i) hN hi hx pe_we hs hf) fun σ H S => ⟨ρ, G, _, h, S, fun v H' ⟨d, G', e', o', r', q'⟩ => ⟨_, G', e', (S.ext e' o').set r', q'⟩⟩)
theorem wss_set (i : Nat) {x : Str} {pos' : Pos} (hN : X.N.Nodup) (h : PX X ρ G e d) (q : WSs X (ρ.set i (some d)) G rest D) (hi : X.N[i]? = some x := by rfl) (hx : Loc X.env.scope x := by first | exact Or.inl rfl | exact Or.inr rfl)
    (hs : swapsWith e (some (.Name x pos')) pos.line X.env = pure false := by rfl) (hf : X.fn x = true ∨ X.env.scope.names.lookup x = some .local := by first | exact .inl rfl | exact .inr rfl | assumption) : WSs X ρ G (.Assign [.Name x pos'] e pos :: rest) D :=
  wss_setE i hN (h.we q) hi hx hs hf
def PGD (X : Cx) (tg : Expr) (f : Dat → Rho → Option Rho) : Prop :=
  ∀ (pins : List (Addr × Obj)) (s : Shared) (σ : St) (H : Hp) (v : V) (u : Value) (ρ ρ' : Rho) (G : Gs) (d : Dat), Inv X pins σ H s → RelV v u → Stt X H σ ρ G → Rep X.K (hid H G) d v → f d ρ = some ρ' →
    wpAny (model X.prog X.w) X.A (assign tg X.env u) (fun _ s' => ∃ σ' H', Inv X pins σ' H' s' ∧ Ext H G H' G ∧ Stt X H' σ' ρ' G) X.xe s
def bName (i : Nat) : Dat → Rho → Option Rho := fun d ρ => some (ρ.set i (some d))
def bPair (i j : Nat) : Dat → Rho → Option Rho := fun d ρ => match d with
  | .tup [a, b] => some ((ρ.set i (some a)).set j (some b))
  | _ => none
theorem pgd_name (i : Nat) {x : Str} (hN : X.N.Nodup) (hi : X.N[i]? = some x := by rfl) (hx : Loc X.env.scope x := by first | exact Or.inl rfl | exact Or.inr rfl) (hf : X.fn x = true ∨ X.env.scope.names.lookup x = some .local := by first | exact .inl rfl | exact .inr rfl | assumption) : PGD X (.Name x pos) (bName i) := by
  intro pins s σ H v u ρ ρ' G d I r S q e
  cases e
  exact pg_name hN hi hx hf pins s σ H v u (fun σ' H' => Ext H G H' G ∧ Stt X H' σ' _ G) I r ⟨Ext.refl, S.set q⟩
theorem pgd_pair (i j : Nat) {x y : Str} {px py : Pos} {k : Nat} (hc : X.calm = true) (hN : X.N.Nodup) (hi : X.N[i]? = some x := by rfl) (hj : X.N[j]? = some y := by rfl) (hx : Loc X.env.scope x := by first | exact Or.inl rfl | exact Or.inr rfl) (hy : Loc X.env.scope y := by first | exact Or.inl rfl | exact Or.inr rfl)
    (hfx : X.fn x = true ∨ X.env.scope.names.lookup x = some .local := by first | exact .inl rfl | exact .inr rfl | assumption) (hfy : X.fn y = true ∨ X.env.scope.names.lookup y = some .local := by first | exact .inl rfl | exact .inr rfl | assumption) : PGD X (.Tuple [.Name x px, .Name y py] k pos) (bPair i j) := by
  intro pins s σ H v u ρ ρ' G d I r S q e
  cases d <;> simp only [bPair, reduceCtorEq] at e
  rename_i l
  match l, e, q with
  | [a, b], e, q =>
    simp only [Option.some.injEq] at e
    subst e
    rw [Rep] at q
    obtain ⟨p, vs, rfl, h1, h2⟩ := q
    rw [RepL] at h2
    obtain ⟨v1, r1, rfl, q1, h2⟩ := h2
    rw [RepL] at h2
    obtain ⟨v2, r2, rfl, q2, h2⟩ := h2
    rw [RepL] at h2
    subst h2
    exact pg_tup (n := 2) hc (pgs_cons (pg_name hN hi hx hfx) (pgs_cons (pg_name hN hj hy hfy) pgs_nil)) rfl rfl pins s σ H (.ref p) u (fun σ' H' => Ext H G H' G ∧ Stt X H' σ' _ G) I r
      ⟨p, [v1, v2], rfl, sqT_same hid_le h1, rfl, v1, [v2], rfl, v2, [], rfl, rfl, Ext.refl, (S.set q1).set q2⟩
  | [], e, _ => simp at e
  | [_], e, _ => simp at e
  | _ :: _ :: _ :: _, e, _ => simp at e
theorem wss_unpack {tg : Expr} {f : Dat → Rho → Option Rho} {ρ' : Rho} (hg : PGD X tg f) (h : PX X ρ G e d) (hf : f d ρ = some ρ') (q : WSs X ρ' G rest D) (hs : swapsWithSole [tg] e pos.line X.env = pure false := by rfl) (hw : swappedStores [tg] e X.env = pure none := by rfl)
    (h1 : (assignEach [tg] X.env).map (·.2) = [assign tg X.env] := by rfl) : WSs X ρ G (.Assign [tg] e pos :: rest) D := wss_cons fun pins s σ H I S => by
  refine wpAny_Assign_stores (thn (h pins s σ H I S) fun v s1 ⟨x, H1, I1, r1, _, _, e1, o1, rx, q1, q1'⟩ => ?_) hs hw
  subst q1; subst q1'
  rw [h1]
  exact thn (hg pins s1 σ H1 x v ρ ρ' _ _ I1 r1 (S.ext e1 o1) rx hf) fun _ s2 ⟨σ2, H2, I2, e2, S2⟩ => ⟨σ2, H2, I2, ρ', _, e1.trans e2, S2, q⟩
theorem wss_ifE {x y : List Stmt} (hc : WT X ρ G c fun p G' => (p = true → WSs X ρ G' x { D with nx := fun ρ' G' => WSs X ρ' G' rest D }) ∧ (p = false → WSs X ρ G' y { D with nx := fun ρ' G' => WSs X ρ' G' rest D })) : WSs X ρ G (.If c x y pos :: rest) D := wss_cons fun pins s σ H I S => by
  refine wpAny_If (thn (hc pins s σ H I S) fun p s1 ⟨H1, I1, G1, e1, o1, q1⟩ => ?_)
  cases p with
  | true => exact thn (q1.1 rfl pins s1 σ H1 I1 (S.ext e1 o1)) fun _ _ z => SP.trans e1 z
  | false => exact thn (q1.2 rfl pins s1 σ H1 I1 (S.ext e1 o1)) fun _ _ z => SP.trans e1 z
theorem wss_if {x y : List Stmt} {p : Bool} (hc : PXT X ρ G c p) (ht : p = true → WSs X ρ G x { D with nx := fun ρ' G' => WSs X ρ' G' rest D }) (hf : p = false → WSs X ρ G y { D with nx := fun ρ' G' => WSs X ρ' G' rest D }) : WSs X ρ G (.If c x y pos :: rest) D :=
  wss_ifE (pxt_mono hc ⟨ht, hf⟩)
def Wk (K : PySem.W.Frag) (J : It) (H : Hp) (G : Gs) (l : List Dat) : Prop :=
  ∀ H' G', Ext H G H' G' → (∀ (i : Nat) d, l[i]? = some d → J.go i H' ∧ ∀ x H'', J.yld i H' x H'' → Ext H' G' H'' G' ∧ (GOk K H' G' → GOk K H'' G') ∧ (GOk K H' G' → Rep K (hid H'' G') d x)) ∧ J.stop l.length H'
def WI (X : Cx) (ρ : Rho) (G : Gs) (tg iter : Expr) (Q : List Dat → Gs → Prop) : Prop :=
  ∀ (pins : List (Addr × Obj)) (s : Shared) (σ : St) (H : Hp), Inv X pins σ H s → Stt X H σ ρ G →
    wpAny (model X.prog X.w) X.A (eval iter X.env) (fun v s1 => wpAny (model X.prog X.w) X.A (pyIter v) (PIE X pins σ tg fun J H' => ∃ l G', Ext H G H' G' ∧ GOk X.K H' G' ∧ Wk X.K J H' G' l ∧ Q l G') X.xe s1) X.xe s
theorem wk_list {K : PySem.W.Frag} {H : Hp} {p : Addr} {vs : List V} (h : hid H G p = some (.lst vs)) (r : RepL K (hid H G) l vs) : Wk K (Itl K p) H G l := by
  intro H' G' e
  have h' := hid_le _ _ (e.hid _ _ h)
  refine ⟨fun i d hd => ?_, vs, SqL.of h', by rw [r.length]; exact Nat.le_refl _⟩
  obtain ⟨v, hv, rv⟩ := r.get hd
  refine ⟨⟨vs, v, SqL.of h', hv⟩, fun x H'' ⟨e1, y⟩ => ?_⟩
  subst e1
  have := y vs (SqL.of h')
  rw [hv] at this
  cases this
  exact ⟨Ext.refl, fun o => o, fun _ => rv.same e.hid⟩
theorem wk_tup {K : PySem.W.Frag} {H : Hp} {p : Addr} {vs : List V} (h : SqT K (hid H G) p vs) (r : RepL K (hid H G) l vs) : Wk K (Itt K p) H G l := by
  intro H' G' e
  have h' := sqT_same hid_le (sqT_same e.hid h)
  refine ⟨fun i d hd => ?_, vs, h', by rw [r.length]; exact Nat.le_refl _⟩
  obtain ⟨v, hv, rv⟩ := r.get hd
  refine ⟨⟨vs, v, h', hv⟩, fun x H'' ⟨e1, y⟩ => ?_⟩
  subst e1
  have := y vs h'
  rw [hv] at this
  cases this
  exact ⟨Ext.refl, fun o => o, fun _ => rv.same e.hid⟩
def rangeD (lo : Int) (n : Nat) : List Dat := (List.range n).map fun i => .int (lo + (i : Nat))
theorem wk_rng {K : PySem.W.Frag} {H : Hp} {lo : Int} {n : Nat} : Wk K (Itr lo n) H G (rangeD lo n) := by
  intro H' G' e
  refine ⟨fun i d hd => ?_, by show n ≤ (rangeD lo n).length; simp [rangeD]⟩
  have hi : i < n := by
    have := (List.getElem?_eq_some_iff.mp hd).1
    simpa [rangeD] using this
  refine ⟨hi, fun x H'' ⟨e1, e2⟩ => ?_⟩
  subst e1; subst e2
  refine ⟨Ext.refl, fun o => o, fun _ => ?_⟩
  have : (rangeD lo n)[i]? = some (.int (lo + i)) := by simp [rangeD, hi]
  rw [this] at hd
  cases hd
  rfl
theorem wi_listE {tg iter : Expr} {Q : List Dat → Gs → Prop} (h : WE X ρ G iter fun d G' => ∃ l, d = .lst l ∧ Q l G') : WI X ρ G tg iter Q := fun pins s σ H I S =>
  pi_list pe_we pins s σ H _ I ⟨ρ, G, _, h, S, fun x H1 ⟨d, G', e1, o1, r1, l, q1, q⟩ => by
    subst q1
    rw [Rep] at r1
    obtain ⟨p, vs, e2, h2, r2⟩ := r1
    exact ⟨p, e2, ⟨vs, SqL.of (hid_le _ _ h2)⟩, l, G', e1, o1, wk_list h2 r2, q⟩⟩
theorem wi_tupE {tg iter : Expr} {Q : List Dat → Gs → Prop} (h : WE X ρ G iter fun d G' => ∃ l, d = .tup l ∧ Q l G') : WI X ρ G tg iter Q := fun pins s σ H I S =>
  pi_tup pe_we pins s σ H _ I ⟨ρ, G, _, h, S, fun x H1 ⟨d, G', e1, o1, r1, l, q1, q⟩ => by
    subst q1
    rw [Rep] at r1
    obtain ⟨p, vs, e2, h2, r2⟩ := r1
    exact ⟨p, e2, ⟨vs, sqT_same hid_le h2⟩, l, G', e1, o1, wk_tup h2 r2, q⟩⟩
theorem wi_list {tg iter : Expr} {Q : List Dat → Gs → Prop} (h : PX X ρ G iter (.lst l)) (q : Q l G) : WI X ρ G tg iter Q := wi_listE (h.we ⟨l, rfl, q⟩)
theorem wi_tup {tg iter : Expr} {Q : List Dat → Gs → Prop} (h : PX X ρ G iter (.tup l)) (q : Q l G) : WI X ρ G tg iter Q := wi_tupE (h.we ⟨l, rfl, q⟩)
theorem wi_range1 {tg : Expr} {Q : List Dat → Gs → Prop} {n : Int} {p : Pos} (hg : Gl X "range") (hm : X.mg "range" = none) (ha : PX X ρ G a (.int n)) (h1 : -(2 ^ 62) ≤ n) (h2 : n < 2 ^ 62) (q : Q (rangeD 0 n.toNat) G) (hs : starEach [a] X.env = [(false, eval a X.env)] := by rfl) : WI X ρ G tg (.Call (.Name "range" p) [a] [] pos) Q := fun pins s σ H I S =>
  pi_range1 hg hm (pa_cons pe_we pa_nil hs) hs pins s σ H _ I ⟨ρ, G, _, ha, S, fun x H1 ⟨_, _, e1, o1, r1, q1, q1'⟩ => by
    subst q1; subst q1'
    cases (show x = V.int n from r1)
    exact ⟨n, rfl, h1, h2, _, _, e1, o1, wk_rng, q⟩⟩
theorem wss_for {tg iter : Expr} {f : Dat → Rho → Option Rho} (Pv : Nat → Rho → Gs → Prop) (hp : PassesOwn (model X.prog X.w) X.A X.env X.xe) (hc : X.calm = true) (hi : WI X ρ G tg iter fun l' G' => l' = l ∧ Pv 0 ρ G') (hg : PGD X tg f)
    (hs : ∀ (i : Nat) d ρ' G', l[i]? = some d → Pv i ρ' G' → ∃ ρ'', f d ρ' = some ρ'' ∧ WSs X ρ'' G' body { nx := Pv (i + 1), ct := Pv (i + 1), bk := fun ρ' G' => WSs X ρ' G' rest D, rt := D.rt })
    (hd : ∀ ρ' G', Pv l.length ρ' G' → WSs X ρ' G' rest D) (hfs : ∀ x, foldedSetIterable iter X.env x = pure x := by intro _; rfl) : WSs X ρ G (.For tg iter body [] pos :: rest) D := wss_cons fun pins s σ H I S => by
  refine wpAny_For (thn (hi pins s σ H I S) fun v s1 h1 => thn h1 fun itv s2 h2 => ?_) hfs
  obtain ⟨it, fp, tn, J, H2, e, I2, T, st2, f2, l', G2, e2, o2, wk, q, p0⟩ := h2
  subst e; subst q
  have stat : ∀ {H' : Hp}, (∀ b ∈ fp, H' b = none) → ∀ b ∈ fp, FpOk X pins H' b := fun hn b hb => ⟨hn b hb, (f2 b hb).2⟩
  refine codeAny_forLoop_any (fun n s' => ∃ i σ' H' ρ' G', i + n = l'.length ∧ Inv X pins σ' H' s' ∧ tn i s'.heap ∧ (∀ b ∈ fp, H' b = none) ∧ Ext H2 G2 H' G' ∧ Stt X H' σ' ρ' G' ∧ Pv i ρ' G') ?_ l'.length
    ⟨0, σ, H2, ρ, G2, Nat.zero_add _, I2, st2, fun b hb => (f2 b hb).1, Ext.refl, S.ext e2 o2, p0⟩
  rintro n s3 ⟨i, σ3, H3, ρ3, G3, hn, I3, st3, fr3, e3, S3, p3⟩
  obtain ⟨wk1, wk2⟩ := wk H3 G3 e3
  cases n with
  | zero =>
    have hn' : i = l'.length := by omega
    subst hn'
    refine wpAny_passesOwn hp (thn (T.done X rfl rfl rfl hc _ pins s3 σ3 H3 X.xe I3 (stat fr3) st3 wk2) fun r s4 ⟨hr, I4⟩ => ?_)
    subst hr
    exact wpAny_execs_nil ⟨σ3, H3, I4, ρ3, G3, e2.trans e3, S3, hd ρ3 G3 p3⟩
  | succ n =>
    have hlt : i < l'.length := by omega
    obtain ⟨go, wk1⟩ := wk1 i _ (List.getElem?_eq_getElem hlt)
    obtain ⟨ρ4, hf4, w4⟩ := hs i _ ρ3 G3 (List.getElem?_eq_getElem hlt) p3
    refine wpAny_passesOwn hp (thn (T.item X rfl rfl rfl hc i pins s3 σ3 H3 X.xe I3 (stat fr3) st3 go) fun r s4 ⟨u, hr, h4⟩ => ?_)
    subst hr
    refine wpAny_passesOwn hp (thn h4 fun _ s5 ⟨x, H5, I5, r5, y5, st5, fr5⟩ => ?_)
    obtain ⟨e5, o5, rep5'⟩ := wk1 x H5 y5
    have rep5 := rep5' S3.own
    have I5' := I5.pinned (stat fr5) (T.obj _ _ st5)
    refine wpAny_passesOwn hp (thn (hg _ s5 σ3 H5 x u ρ3 ρ4 G3 _ I5' r5 (S3.ext e5 (o5 S3.own)) rep5 hf4) fun _ s6 ⟨σ6, H6, I6, e6, S6⟩ => ?_)
    refine wpAny_passesOwn hp (thn (w4 _ s6 σ6 H6 I6 S6) fun f s7 q7 => ?_)
    have again : ∀ {σ7 : St} {H7 : Hp}, Inv X (pins ++ pinsAt fp s5.heap) σ7 H7 s7 → lft X H6 G3 (Pv (i + 1)) σ7 H7 → ∃ m, m < n + 1 ∧ ∃ i σ' H' ρ' G', i + m = l'.length ∧ Inv X pins σ' H' s7 ∧ tn i s7.heap ∧ (∀ b ∈ fp, H' b = none) ∧ Ext H2 G2 H' G' ∧ Stt X H' σ' ρ' G' ∧ Pv i ρ' G' := fun {σ7 H7} I7 ⟨ρ7, G7, e7, S7, p7⟩ => by
      refine ⟨n, Nat.lt_succ_self _, i + 1, σ7, H7, ρ7, G7, by omega, I7.unpinned, T.keep _ _ _ st5 fun b hb o e => (I7.pin (b, o) (List.mem_append_right _ (List.mem_append_right _ (mem_pinsAt hb e)))).1, fun b hb => ?_, (e3.trans (e5.trans (e6.trans e7))), S7, p7⟩
      obtain ⟨o, e, d⟩ := T.obj _ _ st5 b hb
      exact (I7.pin (b, o) (List.mem_append_right _ (List.mem_append_right _ (mem_pinsAt hb e)))).2.1
    have whole : Ext H G H6 G3 := e2.trans (e3.trans (e5.trans e6))
    cases f with
    | next => obtain ⟨σ7, H7, I7, n7⟩ := q7; exact again I7 n7
    | cont => obtain ⟨σ7, H7, I7, n7⟩ := q7; exact again I7 n7
    | brk => obtain ⟨σ7, H7, I7, q7⟩ := q7; exact ⟨σ7, H7, I7.unpinned, lft_trans whole q7⟩
    | ret v => obtain ⟨x7, σ7, H7, I7, r7, q7⟩ := q7; exact ⟨x7, σ7, H7, I7.unpinned, r7, Po.trans whole q7⟩
theorem wss_while (Pv : Nat → Rho → Gs → Prop) (hp : PassesOwn (model X.prog X.w) X.A X.env X.xe) {m0 : Nat} (h0 : Pv m0 ρ G)
    (hs : ∀ m ρ' G', Pv m ρ' G' → WT X ρ' G' c fun p G'' => (p = true → WSs X ρ' G'' body { nx := fun ρ2 G2 => ∃ m', m' < m ∧ Pv m' ρ2 G2, ct := fun ρ2 G2 => ∃ m', m' < m ∧ Pv m' ρ2 G2, bk := fun ρ' G' => WSs X ρ' G' rest D, rt := D.rt }) ∧ (p = false → WSs X ρ' G'' rest D)) :
    WSs X ρ G (.While c body [] pos :: rest) D := wss_cons fun pins s σ H I S => by
  refine wpAny_While (codeAny_whileLoop (fun n s' => ∃ σ' H' ρ' G', Inv X pins σ' H' s' ∧ Ext H G H' G' ∧ Stt X H' σ' ρ' G' ∧ Pv n ρ' G') ?_ m0 ⟨σ, H, ρ, G, I, Ext.refl, S, h0⟩)
  rintro n s1 ⟨σ1, H1, ρ1, G1, I1, e1, S1, p1⟩
  refine wpAny_passesOwn hp (thn (hs n ρ1 G1 p1 pins s1 σ1 H1 I1 S1) fun p s2 ⟨H2, I2, G2, e2, o2, q2⟩ => ?_)
  cases p with
  | true =>
    rw [if_pos rfl]
    refine wpAny_passesOwn hp (thn (q2.1 rfl pins s2 σ1 H2 I2 (S1.ext e2 o2)) fun f s3 q3 => ?_)
    cases f with
    | next =>
      obtain ⟨σ3, H3, I3, ρ3, G3, e3, S3, m', hm, p3⟩ := q3
      exact ⟨m', hm, σ3, H3, ρ3, G3, I3, e1.trans (e2.trans e3), S3, p3⟩
    | cont =>
      obtain ⟨σ3, H3, I3, ρ3, G3, e3, S3, m', hm, p3⟩ := q3
      exact ⟨m', hm, σ3, H3, ρ3, G3, I3, e1.trans (e2.trans e3), S3, p3⟩
    | brk => obtain ⟨σ3, H3, I3, q3⟩ := q3; exact ⟨σ3, H3, I3, lft_trans (e1.trans e2) q3⟩
    | ret v => obtain ⟨x3, σ3, H3, I3, r3, q3⟩ := q3; exact ⟨x3, σ3, H3, I3, r3, Po.trans (e1.trans e2) q3⟩
  | false =>
    rw [if_neg Bool.false_ne_true]
    exact wpAny_execs_nil ⟨σ1, H2, I2, ρ1, G2, e1.trans e2, S1.ext e2 o2, q2.2 rfl⟩
theorem own_new {H : Hp} {p : Addr} {vs : List V} (o : GOk X.K H G) (hp : H p = none) (r : RepL X.K (hid H G) ds vs) : Ext H G (upd H p (.lst vs)) (put G p (.lst ds)) ∧ GOk X.K (upd H p (.lst vs)) (put G p (.lst ds)) := by
  have hG := o.free hp
  have E : Ext H G (upd H p (.lst vs)) (put G p (.lst ds)) := ⟨fun b u e _ => by rw [upd_ne (ne_of_none e hp)]; exact e, fun b h => by
    by_cases hb : b = p
    · subst hb; exact .inr hp
    · rw [put_ne hb] at h; exact .inl h⟩
  refine ⟨E, fun b u q => ?_⟩
  by_cases hb : b = p
  · subst hb
    rw [put_same] at q
    cases q
    exact ⟨vs, upd_same, r.same E.hid⟩
  · rw [put_ne hb] at q
    exact (o b u q).ext E.hid (upd_ne hb)
theorem own_set {H : Hp} {p : Addr} {l : List Dat} {vs : List V} (o : GOk X.K H G) (hG : G p = some (.lst l)) (r : RepL X.K (hid H G) ds vs) : Ext H G (upd H p (.lst vs)) (put G p (.lst ds)) ∧ GOk X.K (upd H p (.lst vs)) (put G p (.lst ds)) := by
  have E : Ext H G (upd H p (.lst vs)) (put G p (.lst ds)) := ⟨fun b u e h => by
    have : b ≠ p := by rintro rfl; rw [hG] at h; cases h
    rw [upd_ne this]; exact e, fun b h => by
    by_cases hb : b = p
    · subst hb; left; rw [hG]; exact nofun
    · rw [put_ne hb] at h; exact .inl h⟩
  refine ⟨E, fun b u q => ?_⟩
  by_cases hb : b = p
  · subst hb
    rw [put_same] at q
    cases q
    exact ⟨vs, upd_same, r.same E.hid⟩
  · rw [put_ne hb] at q
    exact (o b u q).ext E.hid (upd_ne hb)
theorem own_rel {H : Hp} {p : Addr} {l : List Dat} (o : GOk X.K H G) (hG : G p = some (.lst l)) : Ext H G H (rel G p) ∧ GOk X.K H (rel G p) ∧ Rep X.K (hid H (rel G p)) (.lst l) (.ref p) := by
  have E : Ext H G H (rel G p) := ⟨fun b u e _ => e, fun b h => by
    by_cases hb : b = p
    · subst hb; rw [rel_same] at h; exact absurd rfl h
    · rw [rel_ne hb] at h; exact .inl h⟩
  refine ⟨E, fun b u q => ?_, ?_⟩
  · by_cases hb : b = p
    · subst hb; rw [rel_same] at q; cases q
    · rw [rel_ne hb] at q
      exact (o b u q).ext E.hid rfl
  · obtain ⟨vs, h1, r1⟩ := o p _ hG
    rw [Rep]
    exact ⟨p, vs, rfl, hid_of rel_same h1, r1.same E.hid⟩
theorem wss_ownL (i : Nat) {x : Str} {pos' : Pos} (hN : X.N.Nodup) (h : PXs X ρ G es ds) (q : ∀ p, G p = none → WSs X (ρ.set i (some (.fn p))) (put G p (.lst ds)) rest D) (hz : ds.length ≤ 1000 := by first | decide | (simp; done)) (hi : X.N[i]? = some x := by rfl) (hx : Loc X.env.scope x := by first | exact Or.inl rfl | exact Or.inr rfl)
    (hs : swapsWith (.List es p2) (some (.Name x pos')) pos.line X.env = pure false := by rfl) (hf : X.fn x = true ∨ X.env.scope.names.lookup x = some .local := by first | exact .inl rfl | exact .inr rfl | assumption) : WSs X ρ G (.Assign [.Name x pos'] (.List es p2) pos :: rest) D :=
  wss_cons (ws_ps (ps_set (i := i) hN hi hx (pe_lst pa_wa) hs hf) fun σ H S => ⟨ρ, G, _, h, S, fun vs H1 ⟨_, _, e1, o1, r1, q1, q1'⟩ => by
    subst q1; subst q1'
    refine ⟨by rw [r1.length]; exact Nat.le_of_lt (small1000 hz), fun p hp => ?_⟩
    obtain ⟨E, O⟩ := own_new o1 hp r1
    exact ⟨_, _, e1.trans E, Stt.set (d := .fn p) (v := .ref p) (S.ext (e1.trans E) O) rfl, q p (o1.free hp)⟩⟩)
theorem wss_append {p : Addr} {apos cpos : Pos} (hx : PX X ρ G a (.fn p)) (h : PX X ρ G e d) (hG : G p = some (.lst l)) (hz : l.length < sizeLine) (q : WSs X ρ (put G p (.lst (l ++ [d]))) rest D)
    (hbase : attributeBase a "append" X.env (eval a X.env) = eval a X.env := by rfl) (hline : (apos.endLine == cpos.line) = true := by rfl) (he : starEach [e] X.env = (false, eval e X.env) :: starEach [] X.env := by rfl)
    (hfew : ((backTo cpos (starEach [e] X.env)).all (fun x => !x.1) && (backToKw cpos (keywordEach [] X.env)).all (fun x => x.1.isSome) && decide (([e] : List Expr).length + ([] : List Keyword).length + (if ([] : List Keyword).isEmpty then 0 else 1) < 30)) = true := by rfl)
    (hs : swapsWith (.Call (.Attribute a "append" apos) [e] [] cpos) none pos.line X.env = pure false := by rfl) : WSs X ρ G (.Expr (.Call (.Attribute a "append" apos) [e] [] cpos) pos :: rest) D :=
  wss_cons (ws_ps (ps_expr (pe_bm PySem.F.plainAttrs_list PySem.F.slot_list_append PySem.F.type_list_append mt_append pe_we (pa_cons pe_we pa_nil he) hbase hfew hline he rfl) hs) fun σ H S => ⟨ρ, G, _, hx, S, fun x H1 ⟨_, _, e1, o1, r1, q1, q1'⟩ => by
    subst q1; subst q1'
    cases (show x = V.ref p from r1)
    obtain ⟨vs1, h1, _⟩ := o1 p _ hG
    refine ⟨.inl ⟨rfl, vs1, SqL.of h1⟩, ρ, _, _, h, S.ext e1 o1, fun y H2 ⟨_, _, e2, o2, r2, q2, q2'⟩ => ?_⟩
    subst q2; subst q2'
    obtain ⟨vs, h2, r3⟩ := o2 p _ hG
    refine ⟨p, vs, y, rfl, rfl, h2, by rw [r3.length]; exact hz, ?_⟩
    obtain ⟨E, O⟩ := own_set o2 hG (r3.append (RepL.cons r2 RepL.nil))
    exact ⟨ρ, _, (e1.trans e2).trans E, S.ext ((e1.trans e2).trans E) O, q⟩⟩)
theorem wss_retO {p : Addr} (h : PX X ρ G e (.fn p)) (hG : G p = some (.lst l)) (q : D.rt (.lst l) (rel G p)) : WSs X ρ G (.Return (some e) pos :: rest) D :=
  wss_retE fun pins s σ H I S => thn (h pins s σ H I S) fun v s1 z => EP.mono z fun x H1 ⟨_, _, e1, o1, r1, q1, q1'⟩ => by
    subst q1; subst q1'
    cases (show x = V.ref p from r1)
    obtain ⟨E, O, R⟩ := own_rel o1 hG
    exact ⟨_, _, e1.trans E, O, R, q⟩
end
end TF
set_option maxHeartbeats 2000000
namespace TF
open PySem PySem.Spec L2
open PyProof.Rows hiding St RelV
theorem forIn_yield_fold {α β : Type} {f : α → β → Sem (ForInStep β)} {g : β → α → β} : ∀ (l : List α) (c : β), (∀ x ∈ l, ∀ c, f x c = pure (.yield (g c x))) → forIn l c f = (pure (l.foldl g c) : Sem β)
  | [], _, _ => rfl
  | x :: l, c, h => by
    rw [List.forIn_cons, h x List.mem_cons_self, pure_bind]
    exact forIn_yield_fold l _ fun y hy => h y (List.mem_cons_of_mem _ hy)
def clF (env : Env) : List (Str × Addr) → Str × NameKind → List (Str × Addr) := fun cs x => if (x.2 == NameKind.free) = true then (x.1, (env.cells.lookup x.1).getD 0) :: cs else cs
def clOf (scope : Scope) (env : Env) : List (Str × Addr) := scope.names.foldl (clF env) []
theorem closureFor_ok {scope : Scope} {env : Env} (h : ∀ x ∈ scope.names, x.2 = .free → ∃ c, env.cells.lookup x.1 = some c) : closureFor scope env = pure (clOf scope env) := by
  simp only [closureFor]
  rw [forIn_yield_fold (g := clF env) scope.names [] (fun x hx c => ?_)]
  · rfl
  · obtain ⟨n, kind⟩ := x
    by_cases hk : kind = .free
    · subst hk
      obtain ⟨a, ha⟩ := h _ hx rfl
      simp only [cellOf, clF, ha, beq_self_eq_true, if_true, Option.getD_some, pure_bind]
    · have : (kind == NameKind.free) = false := by simpa using hk
      simp only [clF, this, Bool.false_eq_true, if_false]
theorem clF_mem {env : Env} {x : Str} {c : Addr} : ∀ (l : List (Str × NameKind)) (cs : List (Str × Addr)), (x, c) ∈ l.foldl (clF env) cs → (x, c) ∈ cs ∨ ((x, NameKind.free) ∈ l ∧ c = (env.cells.lookup x).getD 0)
  | [], _, h => .inl h
  | (n, k) :: l, cs, h => by
    rcases clF_mem l _ h with h | ⟨h1, h2⟩
    · unfold clF at h
      by_cases hk : (k == NameKind.free) = true
      · rw [if_pos hk] at h
        rcases List.mem_cons.mp h with e | h
        · cases e
          exact .inr ⟨by rw [eq_of_beq hk]; exact List.mem_cons_self, rfl⟩
        · exact .inl h
      · rw [if_neg hk] at h
        exact .inl h
    · exact .inr ⟨List.mem_cons_of_mem _ h1, h2⟩
theorem clF_has {env : Env} {x : Str} : ∀ (l : List (Str × NameKind)) (cs : List (Str × Addr)), ((x, NameKind.free) ∈ l ∨ ∃ c, (x, c) ∈ cs) → ∃ c, (x, c) ∈ l.foldl (clF env) cs
  | [], _, h => by
    rcases h with h | h
    · cases h
    · exact h
  | (n, k) :: l, cs, h => by
    refine clF_has l _ ?_
    rcases h with h | ⟨c, h⟩
    · rcases List.mem_cons.mp h with e | h
      · cases e
        right
        refine ⟨(env.cells.lookup x).getD 0, ?_⟩
        unfold clF
        rw [if_pos (by rfl)]
        exact List.mem_cons_self
      · exact .inl h
    · right
      refine ⟨c, ?_⟩
      unfold clF
      split
      · exact List.mem_cons_of_mem _ h
      · exact h
theorem lookup_mem {α : Type} {x : Str} {c : α} : ∀ {l : List (Str × α)}, l.lookup x = some c → (x, c) ∈ l
  | [], h => by simp at h
  | (n, k) :: l, h => by
    by_cases e : x = n
    · subst e
      simp only [List.lookup_cons, beq_self_eq_true] at h
      cases h
      exact List.mem_cons_self
    · have : (x == n) = false := by simpa using e
      simp only [List.lookup_cons, this] at h
      exact List.mem_cons_of_mem _ (lookup_mem h)
theorem mem_lookup {α : Type} {x : Str} {c : α} : ∀ {l : List (Str × α)}, (x, c) ∈ l → ∃ c', l.lookup x = some c'
  | [], h => by cases h
  | (n, k) :: l, h => by
    by_cases e : x = n
    · subst e; exact ⟨k, by simp [List.lookup_cons]⟩
    · have : (x == n) = false := by simpa using e
      rcases List.mem_cons.mp h with q | q
      · cases q; exact absurd rfl e
      · obtain ⟨c', h'⟩ := mem_lookup q
        exact ⟨c', by simpa [List.lookup_cons, this] using h'⟩
def compCx (X : Cx) (Nc : List Str) (scope : Scope) (C : Addr) (s : Shared) (H : Hp) (fp : List Addr) : Cx where
  prog := X.prog
  w := X.w
  K := X.K
  mg := X.mg
  base := X.base
  A := X.A
  N := Nc
  s₀ := s
  H₀ := H
  env := compEnvC scope (clOf scope X.env) C X.env
  outer := X.stack
  stack := X.stack
  ex := fp
  fn := fun _ => false
  calm := true
  pn := []
  xe := fun _ _ => False
def compOk (psc : Scope) (PN : List Str) (scope : Scope) (Nc : List Str) (caps : List (Option Nat)) : Bool :=
  decide (scope.kind = .function) && scope.names.all (fun x => decide (x.2 ≠ .cell)) && scope.names.all (fun x => decide (x.2 = .local → scope.names.lookup x.1 = some .local)) &&
  scope.names.all (fun x => decide (x.2 = .free → scope.names.lookup x.1 = some .free ∧ (psc.names.lookup x.1 = some .cell ∨ psc.names.lookup x.1 = some .free))) && decide Nc.Nodup && decide (caps.length = Nc.length) &&
  (caps.zip Nc).all (fun q => match q.1 with | none => true | some j => decide (PN[j]? = some q.2) && decide ((q.2, NameKind.free) ∈ scope.names))
structure CompSc (X : Cx) (scope : Scope) (Nc : List Str) (caps : List (Option Nat)) : Prop where
  kind : scope.kind = .function
  nocell : ∀ x ∈ scope.names, x.2 ≠ .cell
  names : ∀ x ∈ scope.names, x.2 = .local → scope.names.lookup x.1 = some .local
  free : ∀ x ∈ scope.names, x.2 = .free → X.env.kindOf x.1 = some .cell ∨ X.env.kindOf x.1 = some .free
  sole : ∀ x ∈ scope.names, x.2 = .free → scope.names.lookup x.1 = some .free
  nd : Nc.Nodup
  len : caps.length = Nc.length
  caps : ∀ (i j : Nat) (x : Str), caps[i]? = some (some j) → Nc[i]? = some x → X.N[j]? = some x ∧ (x, NameKind.free) ∈ scope.names
theorem compSc {X : Cx} {psc : Scope} {PN : List Str} {scope : Scope} {Nc : List Str} {caps : List (Option Nat)} (h : compOk psc PN scope Nc caps = true) (h1 : X.env.scope = psc) (h2 : X.N = PN) : CompSc X scope Nc caps := by
  unfold compOk at h
  simp only [Bool.and_eq_true, decide_eq_true_eq, List.all_eq_true] at h
  obtain ⟨⟨⟨⟨⟨⟨a, b⟩, c⟩, d⟩, e⟩, f⟩, g⟩ := h
  refine ⟨a, b, c, fun x hx hf => ?_, fun x hx hf => (d x hx hf).1, e, f, fun i j x hi hj => ?_⟩
  · have := (d x hx hf).2
    show X.env.scope.names.lookup x.1 = _ ∨ X.env.scope.names.lookup x.1 = _
    rw [h1]; exact this
  · have hm : (some j, x) ∈ caps.zip Nc := List.mem_of_getElem? (i := i) (by rw [List.getElem?_zip_eq_some]; exact ⟨hi, hj⟩)
    have := g _ hm
    simp only [Bool.and_eq_true, decide_eq_true_eq] at this
    rw [h2]
    exact this
def pick {α : Type} (caps : List (Option Nat)) (l : List (Option α)) : List (Option α) := caps.map fun o => o.bind fun j => (l[j]?).join
theorem pick_get {α : Type} {caps : List (Option Nat)} {l : List (Option α)} {i : Nat} {v : α} (h : (pick caps l)[i]? = some (some v)) : ∃ j, caps[i]? = some (some j) ∧ l[j]? = some (some v) := by
  unfold pick at h
  rw [List.getElem?_map] at h
  cases q : caps[i]? with
  | none => rw [q] at h; cases h
  | some o =>
    rw [q] at h
    cases o with
    | none => simp at h
    | some j =>
      refine ⟨j, rfl, ?_⟩
      simp only [Option.map_some, Option.bind_some, Option.some.injEq] at h
      cases z : l[j]? with
      | none => rw [z] at h; simp at h
      | some u => rw [z] at h; simp only [Option.join_some] at h; rw [h]
theorem get_pick {α : Type} {caps : List (Option Nat)} {l : List (Option α)} {i j : Nat} {v : α} (h : caps[i]? = some (some j)) (h' : l[j]? = some (some v)) : (pick caps l)[i]? = some (some v) := by
  unfold pick
  rw [List.getElem?_map, h]
  simp [h']
section
variable {X : Cx} {pins : List (Addr × Obj)} {σ : St} {H : Hp} {s : Shared} {scope : Scope} {Nc : List Str} {caps : List (Option Nat)} {fp : List Addr} {ρ : Rho} {G : Gs}
theorem clOf_cell (I : Inv X pins σ H s) (Sc : CompSc X scope Nc caps) {x : Str} {c : Addr} (h : (clOf scope X.env).lookup x = some c) : X.env.cells.lookup x = some c ∧ (x, NameKind.free) ∈ scope.names := by
  rcases clF_mem _ _ (lookup_mem h) with h | ⟨h1, h2⟩
  · cases h
  · obtain ⟨c', hc⟩ := I.ok.has x (Sc.free _ h1 rfl)
    rw [hc] at h2
    exact ⟨by rw [hc, h2]; rfl, h1⟩
theorem clOf_of (I : Inv X pins σ H s) (Sc : CompSc X scope Nc caps) {x : Str} (h : (x, NameKind.free) ∈ scope.names) : ∃ c, (clOf scope X.env).lookup x = some c ∧ X.env.cells.lookup x = some c := by
  obtain ⟨c, hm⟩ := clF_has (env := X.env) scope.names [] (.inl h)
  obtain ⟨c', hc⟩ := mem_lookup hm
  exact ⟨c', hc, (clOf_cell I Sc hc).1⟩
theorem relabel_kind {env : Env} {x : Str} : ∀ {names : List (Str × NameKind)} {k : NameKind}, (names.map fun (n, k) => if (k == NameKind.free && env.scope.kind == .function && env.kindOf n == some .cell) then (n, NameKind.cell) else (n, k)).lookup x = some k →
    ∃ k', (x, k') ∈ names ∧ (k = k' ∨ (k' = .free ∧ k = .cell))
  | [], _, h => by simp at h
  | (n, k0) :: r, k, h => by
    rw [List.map_cons] at h
    by_cases e : x = n
    · subst e
      by_cases hc : (k0 == NameKind.free && env.scope.kind == .function && env.kindOf x == some .cell) = true
      · simp only [hc, if_true, List.lookup_cons, beq_self_eq_true] at h
        cases h
        simp only [Bool.and_eq_true] at hc
        exact ⟨k0, List.mem_cons_self, .inr ⟨eq_of_beq hc.1.1, rfl⟩⟩
      · simp only [hc, Bool.false_eq_true, if_false, List.lookup_cons, beq_self_eq_true] at h
        cases h
        exact ⟨k0, List.mem_cons_self, .inl rfl⟩
    · have hx : (x == n) = false := by simpa using e
      have : (List.map (fun (x : Str × NameKind) => match x with | (n, k) => if (k == NameKind.free && env.scope.kind == .function && env.kindOf n == some .cell) then (n, NameKind.cell) else (n, k)) r).lookup x = some k := by
        by_cases hc : (k0 == NameKind.free && env.scope.kind == .function && env.kindOf n == some .cell) = true
        · simp only [hc, if_true, List.lookup_cons, hx] at h; exact h
        · simp only [hc, Bool.false_eq_true, if_false, List.lookup_cons, hx] at h; exact h
      obtain ⟨k', h1, h2⟩ := relabel_kind this
      exact ⟨k', List.mem_cons_of_mem _ h1, h2⟩
theorem relabel_free {env : Env} {x : Str} : ∀ {names : List (Str × NameKind)}, names.lookup x = some .free → (names.map fun (n, k) => if (k == NameKind.free && env.scope.kind == .function && env.kindOf n == some .cell) then (n, NameKind.cell) else (n, k)).lookup x = some .cell ∨
    (names.map fun (n, k) => if (k == NameKind.free && env.scope.kind == .function && env.kindOf n == some .cell) then (n, NameKind.cell) else (n, k)).lookup x = some .free
  | [], h => by simp at h
  | (n, k0) :: r, h => by
    rw [List.map_cons]
    by_cases e : x = n
    · subst e
      simp only [List.lookup_cons, beq_self_eq_true] at h
      cases h
      by_cases hc : (NameKind.free == NameKind.free && env.scope.kind == .function && env.kindOf x == some .cell) = true
      · left
        show List.lookup x ((if (NameKind.free == NameKind.free && env.scope.kind == .function && env.kindOf x == some .cell) = true then (x, NameKind.cell) else (x, NameKind.free)) :: _) = _
        rw [if_pos hc, List.lookup_cons, beq_self_eq_true]
      · right
        show List.lookup x ((if (NameKind.free == NameKind.free && env.scope.kind == .function && env.kindOf x == some .cell) = true then (x, NameKind.cell) else (x, NameKind.free)) :: _) = _
        rw [if_neg hc, List.lookup_cons, beq_self_eq_true]
    · have hx : (x == n) = false := by simpa using e
      simp only [List.lookup_cons, hx] at h
      have ih := relabel_free (env := env) h
      by_cases hc : (k0 == NameKind.free && env.scope.kind == .function && env.kindOf n == some .cell) = true
      · simp only [hc, if_true, List.lookup_cons, hx]; exact ih
      · simp only [hc, Bool.false_eq_true, if_false, List.lookup_cons, hx]; exact ih
theorem comp_enter (I : Inv X pins σ H s) (Sc : CompSc X scope Nc caps) (hcalm : X.calm = true) {h₁ : Heap} {tk : Nat} (hf : ∀ b ∈ fp, FpOk X pins H b) (hlt : ∀ b ∈ fp, b < s.heap.objs.size)
    (hns : ∃ m, h₁.Ns s.heap.objs.size m) (hk : ∀ b u, s.heap.get? b = some u → h₁.get? b = some u) :
    Inv (compCx X Nc scope s.heap.objs.size s H fp) [] (pick caps σ) H { s with heap := h₁, toks := tk } := by
  have kindX : ∀ x, ((compCx X Nc scope s.heap.objs.size s H fp).env.kindOf x = some .cell ∨ (compCx X Nc scope s.heap.objs.size s H fp).env.kindOf x = some .free) → (x, NameKind.free) ∈ scope.names := fun x hx => by
    have hh : ∃ k, (k = NameKind.cell ∨ k = NameKind.free) ∧ (compCx X Nc scope s.heap.objs.size s H fp).env.kindOf x = some k := by
      rcases hx with h | h
      · exact ⟨_, .inl rfl, h⟩
      · exact ⟨_, .inr rfl, h⟩
    obtain ⟨k, hk, h⟩ := hh
    obtain ⟨k', h1, h2⟩ := relabel_kind (env := X.env) h
    rcases h2 with e | ⟨e, _⟩
    · subst e
      rcases hk with e | e
      · subst e; exact absurd rfl (Sc.nocell _ h1)
      · subst e; exact h1
    · subst e; exact h1
  refine ⟨?_, rfl, I.bare, Un.kept hk, ?_, fun x c e => ?_, ?_, fun x c e => ?_, fun p hp => ?_, I.hok.kept hk, ?_⟩
  · refine ⟨I.ok.mod, Sc.kind, I.ok.glob, I.ok.blt, Nat.le_refl _, fun x y c h1 h2 => ?_, fun x h => ?_, fun x c h => ?_, fun _ => I.ok.hd hcalm, I.ok.frames, .inl rfl, fun b hb => ?_, I.bs, Nat.le_trans I.ok.bsz I.sz, fun b o e hb => ?_, fun b hb hb' => ?_, I.stack, I.stkFree⟩
    · exact I.ok.inj x y c (clOf_cell I Sc h1).1 (clOf_cell I Sc h2).1
    · obtain ⟨c, h1, _⟩ := clOf_of I Sc (kindX x h)
      exact ⟨c, h1⟩
    · exact absurd h Bool.false_ne_true
    · exact ⟨Nat.ne_of_lt (hlt b hb), fun x c e => (hf b hb).2.2.2.2.1 x c (clOf_cell I Sc e).1⟩
    · rcases (hf b hb).2.2.2.1 with z | z
      · exact I.ok.noex b o e z
      · exact absurd (Nat.lt_of_lt_of_le (Heap.lt_size e) (Nat.le_trans I.ok.bsz z)) (Nat.lt_irrefl _)
    · rcases List.mem_cons.mp (I.stkSub b hb') with z | z
      · exact (hf b hb).2.1 z
      · exact (hf b hb).2.2.1 z
  · obtain ⟨m, hm⟩ := hns
    refine ⟨m, hm, fun i x v h1 h2 h3 => ?_⟩
    obtain ⟨j, hj, hv⟩ := pick_get h2
    obtain ⟨hN, hfr⟩ := Sc.caps i j x hj h1
    obtain ⟨c, hc1, hc2⟩ := clOf_of I Sc hfr
    have kx := Sc.free _ hfr rfl
    obtain ⟨m0, _, hl⟩ := I.loc
    obtain ⟨u, ru, lk⟩ := hl j x v hN hv (by rcases kx with z | z; exact .inr (.inl z); exact .inr (.inr z))
    refine ⟨u, ru, ?_⟩
    rcases lk with ⟨z, _⟩ | ⟨_, c', e', cell⟩
    · rcases kx with y | y <;> (have y' : X.env.kindOf x = _ := y; rw [z] at y'; cases y')
    · rw [hc2] at e'
      cases e'
      exact .inr ⟨relabel_free (Sc.sole _ hfr rfl), c, hc1, cell.keeps hk⟩
  · obtain ⟨v, z⟩ := I.cell x c (clOf_cell I Sc e).1
    exact ⟨v, z.keeps hk⟩
  · exact I.hok.fresh (Nat.le_refl _)
  · exact I.freeC x c (clOf_cell I Sc e).1
  · cases hp
  · unfold pick; rw [List.length_map]; exact Sc.len
end
end TF
namespace TF
open PySem PySem.Spec L2
open PyProof.Rows hiding St RelV
theorem comp_leave {X : Cx} {pins : List (Addr × Obj)} {σ σc : St} {H Hf : Hp} {s sf : Shared} {scope : Scope} {Nc : List Str} {fp : List Addr} {h' : Heap} (I : Inv X pins σ H s) (hf : ∀ b ∈ fp, FpOk X pins H b)
    (Ic : Inv (compCx X Nc scope s.heap.objs.size s H fp) [] σc Hf sf) (hs : Heap.SameBut s.heap.objs.size sf.heap h') : Inv X pins σ Hf { sf with heap := h' } := by
  have hch : ∀ b ∈ fp, (b ∈ X.ex ∨ X.s₀.heap.objs.size ≤ b) ∧ b ≠ X.env.locals ∧ (∀ x c, X.env.cells.lookup x = some c → c ≠ b) ∧ ∀ p ∈ X.pn ++ pins, p.1 ≠ b := fun b hb =>
    ⟨(hf b hb).2.2.2.1, (hf b hb).2.1, (hf b hb).2.2.2.2.1, (hf b hb).2.2.2.2.2⟩
  have I1 : Inv X pins σ Hf sf := I.call' Ic.os Ic.base Ic.hok Ic.bare hch
  have hC : Hf s.heap.objs.size = none := Ic.free
  refine I1.turned (t' := sf.toks) (it := s.heap.objs.size) (fun b o hb e => hs.extBut b o hb e) hC (Nat.ne_of_gt I.lt) (.inr I.sz) (fun x c e z => ?_) fun p hp z => ?_
  · obtain ⟨v, o, ho, _⟩ := I.cell x c e
    rw [z] at ho
    exact absurd (Heap.lt_size ho) (Nat.lt_irrefl _)
  · have := (I.pin p hp).1
    rw [z] at this
    exact absurd (Heap.lt_size this) (Nat.lt_irrefl _)
def emitT (elt : Expr) (env : Env) (acc : Value) : Sem Unit := eval elt env >>= fun x => call (.builtin "list.append") [acc, x] >>= fun _ => pure ()
def testT (c elt : Expr) (env : Env) (acc : Value) : Sem Unit := isTrue c env (eval c env) >>= fun ok => if ok = true then emitT elt env acc else pure ()
def TurnIs (elt target iter : Expr) (ifs : List Expr) (scope : Scope) (pos : Pos) (tail : Env → Value → Sem Unit) : Prop :=
  ∀ (it acc : Value) (env : Env), compTurn (.ListComp elt [⟨target, iter, ifs, 0⟩] scope pos) 0 it acc env = (standAt iter.pos >>= fun _ => pyNext it >>= fun r => match r with
      | none => pure (.done .next)
      | some v => letOwnedTupleGo target it v >>= fun _ => assign target env v >>= fun _ => tail env acc >>= fun _ =>
          again (.compLoop (.ListComp elt [⟨target, iter, ifs, 0⟩] scope pos) 0 it acc env))
theorem turnIs_0 (elt target iter : Expr) (scope : Scope) (pos : Pos) : TurnIs elt target iter [] scope pos (emitT elt) := fun it acc env => by rfl
theorem turnIs_1 (elt target iter c : Expr) (scope : Scope) (pos : Pos) : TurnIs elt target iter [c] scope pos (testT c elt) := fun it acc env => by
  have e : compTurn (.ListComp elt [⟨target, iter, [c], 0⟩] scope pos) 0 it acc env = (standAt iter.pos >>= fun _ => pyNext it >>= fun r => match r with
      | none => pure (.done .next)
      | some v => letOwnedTupleGo target it v >>= fun _ => assign target env v >>= fun _ =>
          (forIn [c] true fun c r => if r = true then (isTrue c env (eval c env) >>= fun ok => pure (ForInStep.yield ok)) else pure (ForInStep.yield r)) >>= fun ok =>
            if ok = true then (emitT elt env acc >>= fun _ => again (.compLoop (.ListComp elt [⟨target, iter, [c], 0⟩] scope pos) 0 it acc env)) else again (.compLoop (.ListComp elt [⟨target, iter, [c], 0⟩] scope pos) 0 it acc env)) := by rfl
  rw [e]
  refine congrArg _ (funext fun _ => congrArg _ (funext fun r => ?_))
  cases r with
  | none => rfl
  | some v =>
    refine congrArg (letOwnedTupleGo target it v >>= ·) (funext fun _ => congrArg (assign target env v >>= ·) (funext fun _ => ?_))
    unfold testT
    simp only [List.forIn_cons, List.forIn_nil, if_true, bind_assoc, pure_bind]
    refine congrArg (isTrue c env (eval c env) >>= ·) (funext fun ok => ?_)
    cases ok <;> simp
def WTail (Xc : Cx) (ρ : Rho) (G : Gs) (tl : Sem Unit) (Q : Gs → Prop) : Prop :=
  ∀ (pins : List (Addr × Obj)) (s : Shared) (σ : St) (H : Hp), Inv Xc pins σ H s → Stt Xc H σ ρ G → wpAny (model Xc.prog Xc.w) Xc.A tl (fun _ s' => ∃ H' G', Inv Xc pins σ H' s' ∧ Ext H G H' G' ∧ GOk Xc.K H' G' ∧ Q G') (fun _ _ => False) s
section
variable {X : Cx} {pins : List (Addr × Obj)} {σ : St} {H : Hp} {s : Shared} {scope : Scope} {Nc : List Str} {caps : List (Option Nat)} {ρ : Rho} {G : Gs} {elt target iter c : Expr} {ifs : List Expr} {cpos : Pos} {l : List Dat} {f : Dat → Rho → Option Rho} {tail : Env → Value → Sem Unit}
theorem comp_core (Pv : Nat → List Dat → Gs → Prop) (ht : TurnIs elt target iter ifs scope cpos tail) (Sc : CompSc X scope Nc caps) (hcalm : X.calm = true)
    (hg : ∀ C s' H' fp, PGD (compCx X Nc scope C s' H' fp) target f) (hle : ∀ d ρ', f d (pick caps ρ) = some ρ' → ρ'.length = (pick caps ρ).length ∧ ∀ (j : Nat) e, (pick caps ρ)[j]? = some (some e) → ρ'[j]? = some (some e)) (hz : l.length ≤ sizeLine)
    (hstep : ∀ C s' H' fp D i d acc G', l[i]? = some d → Pv i acc G' → G' D = none → ∃ ρ', f d (pick caps ρ) = some ρ' ∧
      WTail (compCx X Nc scope C s' H' fp) ρ' (put G' D (.lst acc)) (tail (compCx X Nc scope C s' H' fp).env (.ref D)) fun G'' => ∃ acc' G4, acc'.length ≤ acc.length + 1 ∧ G4 D = none ∧ G'' = put G4 D (.lst acc') ∧ Pv (i + 1) acc' G4)
    {it : Addr} {fp : List Addr} {tn : Nat → Heap → Prop} {J : It} (I : Inv X pins σ H s) (S : Stt X H σ ρ G) (T : Turn X.prog X.w X.K target J fp it tn) (st : tn 0 s.heap) (hf : ∀ b ∈ fp, FpOk X pins H b) (wk : Wk X.K J H G l) (p0 : Pv 0 [] G)
    {E : Value → Shared → Prop} {RR : Value → Addr → Result → Shared → Prop}
    (hRR : ∀ D C s3 sf σc Hf Gf acc, (∀ b o, s.heap.get? b = some o → s3.heap.get? b = some o) → C = s3.heap.objs.size → (∃ H3, Inv X pins σ H3 s3 ∧ (∀ b ∈ fp, FpOk X pins H3 b) ∧ Inv (compCx X Nc scope C s3 H3 fp) [] σc Hf sf) → Ext H G Hf (put Gf D (.lst acc)) → GOk X.K Hf (put Gf D (.lst acc)) → Gf D = none → Pv l.length acc Gf → RR (.ref D) C (.ok .next) sf) :
    wpAny (model X.prog X.w) X.A (newList []) (fun acc s₃ => wpAny (model X.prog X.w) X.A (newFunctionEnv scope X.env.globals (clOf scope X.env) [] X.env.qual none .none (some X.env)) (fun cenv s₄ =>
      codeAny (model X.prog X.w) X.A (.compStart (.ListComp elt [⟨target, iter, ifs, 0⟩] scope cpos) 0 (.ref it) acc { cenv with scope := relabel scope X.env }) (RR acc cenv.locals) s₄) E s₃) E s := by
  refine wpAny_newObj_type (wpAny_newFunctionEnv Sc.nocell (by intro y hy; simp at hy) (fun h₁ hns₁ hsb₁ => ?_) Sc.kind)
  dsimp only at hns₁ hsb₁ ⊢
  have I3 : Inv X pins σ (upd H s.heap.objs.size (.lst [])) { s with heap := s.heap.push { cls := .type "list", data := .seq ([] : List Value).toArray }, toks := s.toks } := I.lnew (ys := []) (its := []) .nil (Nat.zero_le _)
  have hD : H s.heap.objs.size = none := I.hok.fresh (Nat.le_refl _)
  obtain ⟨E3, O3⟩ := own_new (X := X) (ds := []) S.own hD RepL.nil
  have lt2 : ∀ b ∈ fp, b < s.heap.objs.size := fun b hb => by obtain ⟨o, e, _⟩ := T.obj 0 _ st b hb; exact Heap.lt_size e
  have ne2 : ∀ b ∈ fp, b ≠ s.heap.objs.size := fun b hb => Nat.ne_of_lt (lt2 b hb)
  have f3 : ∀ b ∈ fp, FpOk X pins (upd H s.heap.objs.size (.lst [])) b := fun b hb => ⟨by rw [upd_ne (ne2 b hb)]; exact (hf b hb).1, (hf b hb).2⟩
  generalize hs3 : ({ s with heap := s.heap.push { cls := .type "list", data := .seq ([] : List Value).toArray }, toks := s.toks } : Shared) = s3 at I3
  have e3 : s3.heap = s.heap.push { cls := .type "list", data := .seq ([] : List Value).toArray } := by rw [← hs3]
  have k3 : ∀ b o, s.heap.get? b = some o → s3.heap.get? b = some o := fun b o e => by rw [e3]; exact Heap.get?_push_of_some _ e
  have hC : s3.heap.objs.size = s.heap.objs.size + 1 := by rw [e3, Heap.size_push]
  have lt3 : ∀ b ∈ fp, b < s3.heap.objs.size := fun b hb => by rw [hC]; exact Nat.lt_succ_of_lt (lt2 b hb)
  rw [← e3] at hns₁ hsb₁
  have hk : ∀ b u, s3.heap.get? b = some u → h₁.get? b = some u := fun b u e => hsb₁.extBut b u (Nat.ne_of_lt (Heap.lt_size e)) (Heap.get?_push_of_some _ e)
  have Ic := comp_enter (tk := s.toks + ([] : List (Str × Value)).length) I3 Sc hcalm f3 lt3 ⟨_, hns₁⟩ hk
  have st1 : tn 0 h₁ := T.keep _ _ _ st fun b hb o e => hk b o (k3 b o e)
  have Sc0 : Stt (compCx X Nc scope s3.heap.objs.size s3 (upd H s.heap.objs.size (.lst [])) fp) (upd H s.heap.objs.size (.lst [])) (pick caps σ) (pick caps ρ) (put G s.heap.objs.size (.lst [])) := by
    refine ⟨fun i d h => ?_, by unfold pick; rw [List.length_map, List.length_map], O3⟩
    obtain ⟨j, hj, hd⟩ := pick_get h
    obtain ⟨v, hv, rv⟩ := S.env j d hd
    exact ⟨v, get_pick hj hv, rv.same E3.hid⟩
  have wk3 : ∀ H' G', Ext (upd H s.heap.objs.size (.lst [])) (put G s.heap.objs.size (.lst [])) H' G' → Ext H G H' G' := fun H' G' e => E3.trans e
  have loop : ∀ s4 : Shared, s4 = { s3 with heap := h₁, toks := s.toks + ([] : List (Str × Value)).length } →
      codeAny (model X.prog X.w) X.A (.compLoop (.ListComp elt [⟨target, iter, ifs, 0⟩] scope cpos) 0 (.ref it) (.ref s.heap.objs.size) (compCx X Nc scope s3.heap.objs.size s3 (upd H s.heap.objs.size (.lst [])) fp).env) (RR (.ref s.heap.objs.size) s3.heap.objs.size) s4 := by
    rintro s4 rfl
    refine codeAny_loop rfl (fun n s' => ∃ i acc σ' H' G', i + n = l.length ∧ acc.length ≤ i ∧ Inv (compCx X Nc scope s3.heap.objs.size s3 (upd H s.heap.objs.size (.lst [])) fp) [] σ' H' s' ∧ tn i s'.heap ∧ (∀ b ∈ fp, H' b = none) ∧
        Ext (upd H s.heap.objs.size (.lst [])) (put G s.heap.objs.size (.lst [])) H' (put G' s.heap.objs.size (.lst acc)) ∧ Stt (compCx X Nc scope s3.heap.objs.size s3 (upd H s.heap.objs.size (.lst [])) fp) H' σ' (pick caps ρ) (put G' s.heap.objs.size (.lst acc)) ∧ G' s.heap.objs.size = none ∧ Pv i acc G') ?_ l.length
      ⟨0, [], _, _, G, Nat.zero_add _, Nat.le_refl _, Ic, st1, fun b hb => (f3 b hb).1, Ext.refl, Sc0, S.own.free hD, p0⟩
    rintro n s5 ⟨i, acc, σ5, H5, G5, hn, hacc, I5, st5, fr5, e5, S5, hG5, p5⟩
    show wpAny (model X.prog X.w) X.A ((compTurn (.ListComp elt [⟨target, iter, ifs, 0⟩] scope cpos) 0 (.ref it) (.ref s.heap.objs.size) (compCx X Nc scope s3.heap.objs.size s3 (upd H s.heap.objs.size (.lst [])) fp).env).onRaise (fun x => do noteFrame x (compCx X Nc scope s3.heap.objs.size s3 (upd H s.heap.objs.size (.lst [])) fp).env; theTreesLotGoes x)) _ _ s5
    refine wpAny_noted ?_
    rw [ht]
    refine wpAny_bind (wpAny_standAt (wpAny_bind ?_))
    have stat : ∀ {H' : Hp}, (∀ b ∈ fp, H' b = none) → ∀ b ∈ fp, FpOk (compCx X Nc scope s3.heap.objs.size s3 (upd H s.heap.objs.size (.lst [])) fp) [] H' b := fun hn b hb =>
      ⟨hn b hb, Nat.ne_of_lt (lt3 b hb), Ic.ok.exfs b hb, .inl hb, (Ic.ok.exf b hb).2, fun p hp => by cases hp⟩
    obtain ⟨wk1, wk2⟩ := wk H5 _ (wk3 _ _ e5)
    cases n with
    | zero =>
      have hn' : i = l.length := by omega
      subst hn'
      refine thn (T.done (compCx X Nc scope s3.heap.objs.size s3 (upd H s.heap.objs.size (.lst [])) fp) rfl rfl rfl rfl _ [] s5 σ5 H5 _ I5 (stat fr5) st5 wk2) fun r s6 ⟨hr, I6⟩ => ?_
      subst hr
      exact wpAny_pure (hRR _ _ s3 s6 σ5 H5 G5 acc k3 rfl ⟨_, I3, f3, I6⟩ (wk3 _ _ e5) S5.own hG5 p5)
    | succ n =>
      have hlt : i < l.length := by omega
      obtain ⟨go, wk1⟩ := wk1 i _ (List.getElem?_eq_getElem hlt)
      obtain ⟨ρ6, hf6, w6⟩ := hstep s3.heap.objs.size s3 (upd H s.heap.objs.size (.lst [])) fp s.heap.objs.size i _ acc G5 (List.getElem?_eq_getElem hlt) p5 hG5
      refine thn (T.item (compCx X Nc scope s3.heap.objs.size s3 (upd H s.heap.objs.size (.lst [])) fp) rfl rfl rfl rfl i [] s5 σ5 H5 _ I5 (stat fr5) st5 go) fun r s6 ⟨u, hr, h6⟩ => ?_
      subst hr
      refine wpAny_bind (thn h6 fun _ s7 ⟨x, H7, I7, r7, y7, st7, fr7⟩ => ?_)
      obtain ⟨e7, o7, rep7'⟩ := wk1 x H7 y7
      have rep7 := rep7' S5.own
      have I7' := I7.pinned (stat fr7) (T.obj _ _ st7)
      refine wpAny_bind (wpAny_mono (hg _ _ _ _ _ s7 σ5 H7 x u (pick caps ρ) ρ6 _ _ I7' r7 (S5.ext e7 (o7 S5.own)) rep7 hf6) (fun _ s8 ⟨σ8, H8, I8, e8, S8⟩ => ?_) fun _ _ z => z.elim)
      refine wpAny_bind (wpAny_mono (w6 _ s8 σ8 H8 I8 S8) (fun _ s9 ⟨H9, G9, I9, e9, o9, acc', G4, hl4, hG4, eG, p9⟩ => ?_) fun _ _ z => z.elim)
      subst eG
      refine wpAny_pure ⟨rfl, n, Nat.lt_succ_self _, i + 1, acc', σ8, H9, G4, by omega, by omega, I9.unpinned (pins := []), T.keep _ _ _ st7 fun b hb o e => (I9.pin (b, o) (List.mem_append_right _ (List.mem_append_right _ (mem_pinsAt hb e)))).1, fun b hb => ?_, e5.trans (e7.trans (e8.trans e9)), ?_, hG4, p9⟩
      · obtain ⟨o, e, d⟩ := T.obj _ _ st7 b hb
        exact (I9.pin (b, o) (List.mem_append_right _ (List.mem_append_right _ (mem_pinsAt hb e)))).2.1
      · obtain ⟨z1, z2⟩ := hle _ _ hf6
        have S9 := S8.ext e9 o9
        exact ⟨fun j e h => S9.env j e (z2 j e h), by rw [← S9.len, z1], o9⟩
  subst hs3
  exact codeAny_compStart_list (loop _ rfl) (T.self _ 0 _ _ _ st1 (loop _ rfl))
theorem wtail_emit {Xc : Cx} {ρ : Rho} {G : Gs} {D : Addr} {acc : List Dat} {Q : Gs → Prop} (hx : Xc.xe = fun _ _ => False) (hG : G D = some (.lst acc)) (hz : acc.length < sizeLine)
    (h : WE Xc ρ G elt fun v G' => G' D = some (.lst acc) ∧ Q (put G' D (.lst (acc ++ [v])))) : WTail Xc ρ G (emitT elt Xc.env (.ref D)) Q := by
  intro pins s σ H I S
  unfold emitT
  have h' := h pins s σ H I S
  rw [hx] at h'
  refine wpAny_bind (thn h' fun u s1 ⟨x, H1, I1, r1, d, G1, e1, o1, q1, hG1, z1⟩ => ?_)
  obtain ⟨vs, h1, r2⟩ := o1 D _ hG1
  have := mt_append (X := Xc) pins s1 σ H1 (.ref D) [x] (.ref D) [u] (fun _ H' => ∃ G', Ext H G H' G' ∧ GOk Xc.K H' G' ∧ Q G') I1 rfl (.cons r1 .nil) ⟨D, vs, x, rfl, rfl, h1, by rw [r2.length]; exact hz, by
    obtain ⟨E, O⟩ := own_set o1 hG1 (r2.append (RepL.cons q1 RepL.nil))
    exact ⟨_, e1.trans E, O, z1⟩⟩
  rw [hx] at this
  refine wpAny_bind (thn this fun _ s2 ⟨_, H2, I2, _, G2, e2, o2, z2⟩ => wpAny_pure ⟨H2, G2, I2, e2, o2, z2⟩)
theorem wtail_test {Xc : Cx} {ρ : Rho} {G : Gs} {D : Addr} {Q : Gs → Prop} (hx : Xc.xe = fun _ _ => False)
    (h : WT Xc ρ G c fun p G' => (p = true → WTail Xc ρ G' (emitT elt Xc.env (.ref D)) Q) ∧ (p = false → Q G')) : WTail Xc ρ G (testT c elt Xc.env (.ref D)) Q := by
  intro pins s σ H I S
  unfold testT
  have h' := h pins s σ H I S
  rw [hx] at h'
  refine wpAny_bind (thn h' fun p s1 ⟨H1, I1, G1, e1, o1, q1⟩ => ?_)
  cases p with
  | true =>
    rw [if_pos rfl]
    exact thn (q1.1 rfl pins s1 σ H1 I1 (S.ext e1 o1)) fun _ s2 ⟨H2, G2, I2, e2, o2, z2⟩ => ⟨H2, G2, I2, e1.trans e2, o2, z2⟩
  | false =>
    rw [if_neg Bool.false_ne_true]
    exact wpAny_pure ⟨H1, G1, I1, e1, o1, q1.2 rfl⟩
theorem we_comp (Pv : Nat → List Dat → Gs → Prop) {Q : Dat → Gs → Prop} (ht : TurnIs elt target iter ifs scope cpos tail) (Sc : CompSc X scope Nc caps) (hcalm : X.calm = true) (hi : WI X ρ G target iter fun l' G' => l' = l ∧ Pv 0 [] G')
    (hg : ∀ C s' H' fp, PGD (compCx X Nc scope C s' H' fp) target f) (hle : ∀ d ρ', f d (pick caps ρ) = some ρ' → ρ'.length = (pick caps ρ).length ∧ ∀ (j : Nat) e, (pick caps ρ)[j]? = some (some e) → ρ'[j]? = some (some e)) (hz : l.length ≤ sizeLine)
    (hstep : ∀ C s' H' fp D i d acc G', l[i]? = some d → Pv i acc G' → G' D = none → ∃ ρ', f d (pick caps ρ) = some ρ' ∧
      WTail (compCx X Nc scope C s' H' fp) ρ' (put G' D (.lst acc)) (tail (compCx X Nc scope C s' H' fp).env (.ref D)) fun G'' => ∃ acc' G4, acc'.length ≤ acc.length + 1 ∧ G4 D = none ∧ G'' = put G4 D (.lst acc') ∧ Pv (i + 1) acc' G4)
    (hd : ∀ acc G', Pv l.length acc G' → Q (.lst acc) G') (hfs : ∀ x, foldedSetIterable iter X.env x = pure x := by intro _; rfl) : WE X ρ G (.ListComp elt [⟨target, iter, ifs, 0⟩] scope cpos) Q := by
  intro pins s σ H I S
  rw [eval_ListComp]
  refine wpAny_comprehension_free (use := none) rfl hfs (closureFor_ok fun x hx hf => I.ok.has x.1 (Sc.free x hx hf)) Sc.kind Sc.names ?_
  refine thn (hi pins s σ H I S) fun v s1 h1 => thn h1 fun itv s2 h2 => ?_
  obtain ⟨it, fp, tn, J, H2, e, I2, T, st2, f2, l', G2, e2, o2, wk, q, p0⟩ := h2
  subst e; subst q
  refine comp_core (RR := fun acc C => compPost (model X.prog X.w) X.A X.xe none (EP X pins σ (Po X H G Q)) acc C) Pv ht Sc hcalm hg hle hz hstep I2 (S.ext e2 o2) T st2 f2 wk p0 ?_
  rintro D C s3 sf σc Hf Gf acc k3 rfl ⟨H3, I3, f3, Ic⟩ ef of hGf pf
  obtain ⟨m, hm, _⟩ := Ic.loc
  refine ⟨m, hm, fun h' hs => ⟨.ref D, Hf, comp_leave I3 f3 Ic hs, rfl, .lst acc, Gf, ?_, ?_, ?_, hd acc Gf pf⟩⟩
  all_goals
    obtain ⟨E, O, R⟩ := own_rel (X := X) of put_same
    rw [rel_put hGf] at E O R
    first
    | exact e2.trans (ef.trans E)
    | exact O
    | exact R
end
end TF
namespace TF
open PySem PySem.Spec L2
open PyProof.Rows hiding St RelV
abbrev SpD := List Dat → Gs → (Dat → Gs → Prop) → Prop
def liftG (K : PySem.W.Frag) (S : SpD) : Sp := fun vs H Q _ => ∃ ds G R, GOk K H G ∧ RepL K (hid H G) ds vs ∧ S ds G R ∧ ∀ v H' d G', Ext H G H' G' → GOk K H' G' → Rep K (hid H' G') d v → R d G' → Q v H'
def startD (N : List Str) (ds : List Dat) : Rho := ds.map some ++ List.replicate (N.length - ds.length) none
theorem stt_start {X : Cx} {H : Hp} {N : List Str} {ds : List Dat} {vs : List V} {G : Gs} (o : GOk X.K H G) (r : RepL X.K (hid H G) ds vs) : Stt X H (start N vs) (startD N ds) G := by
  refine ⟨fun i d h => ?_, by unfold L2.start startD; rw [List.length_append, List.length_append, List.length_map, List.length_map, r.length, List.length_replicate, List.length_replicate], o⟩
  unfold startD at h
  by_cases hi : i < ds.length
  · rw [List.getElem?_append_left (by rw [List.length_map]; exact hi), List.getElem?_map] at h
    cases q : ds[i]? with
    | none => rw [q] at h; cases h
    | some d' =>
      rw [q] at h
      cases h
      obtain ⟨v, hv, rv⟩ := r.get q
      refine ⟨v, ?_, rv⟩
      unfold L2.start
      rw [List.getElem?_append_left (by rw [List.length_map, r.length]; exact hi), List.getElem?_map, hv]
      rfl
  · rw [List.getElem?_append_right (by rw [List.length_map]; omega), List.length_map] at h
    exfalso
    have := List.mem_of_getElem? h
    rw [List.mem_replicate] at this
    cases this.2
section
variable {P : Program} {w : World} {K : PySem.W.Frag} {mg : Str → Option Value} {base : Heap}
theorem fn_d {x qual : Str} {st : Stmt} {f : Addr} {fd : FuncData} {N ps : List Str} {k : Nat} {S : SpD} (F : Fun K x qual st f fd) (Sc : FnScope N ps (defScope st)) (hlen : ∀ ds G R, S ds G R → ds.length = ps.length)
    (hb : ∀ (cdv : Value) (A : Around) (outer : List Env) (s : Shared) (H : Hp) (E : XK) (ds : List Dat) (G : Gs) (R : Dat → Gs → Prop), Room k (A.deeper (envOfC qual (defScope st) s.heap.objs.size f cdv)) → S ds G R →
      WSs (cxOf CX0 P w K mg base N qual (defScope st) f cdv A outer s H E).nox (startD N ds) G (defBody st) { nx := fun _ G' => R .non G', rt := R }) : FnOk P w K mg base CX0 (k + 1) f fd ps (liftG K S) := by
  refine F.ok Sc (fun vs H Q E h => ?_) (fun cdv A outer s H vs Q E hr h => ?_)
  · obtain ⟨ds, G, R, _, r, hS, _⟩ := h
    rw [r.length]; exact hlen ds G R hS
  · obtain ⟨ds, G, R, o, r, hS, k⟩ := h
    refine ⟨tWSs _ (defBody st), pss_ws, startD N ds, G, _, hb cdv A outer s H E ds G R hr hS, stt_start o r, ?_, ?_, ?_, ?_⟩
    · rintro σ' H' ⟨ρ', G', e', S', q⟩
      exact k .non H' .non G' e' S'.own rfl q
    · rintro v H' ⟨d, G', e', o', r', q⟩
      exact k v H' d G' e' o' r' q
    · rintro σ' H' ⟨_, _, _, _, q⟩; exact q
    · rintro σ' H' ⟨_, _, _, _, q⟩; exact q
end
section
variable {X : Cx} {ρ : Rho} {G : Gs} {e : Expr} {es : List Expr} {ds : List Dat} {pos p : Pos} {S : SpD} {k : Nat} {f : Addr} {fd : FuncData} {ps : List Str} {x : Str} {Q : Dat → Gs → Prop}
theorem we_call (F : FnOk X.prog X.w X.K X.mg X.base CX0 k f fd ps (liftG X.K S)) (hr : Room k X.A) (hm : X.mg x = some (.ref f)) (hk : PySem.W.keepIn X.K (.ref f) = true) (hb : Binds X.K fd ps []) (ha : PXs X ρ G (e :: es) ds) (hS : S ds G Q) (hg : Gl X x := by rfl)
    (hdb : (x == ("__debug__" : Str)) = false := by decide) (he : starEach (e :: es) X.env = (false, eval e X.env) :: starEach es X.env := by rfl) (hpl : (backTo pos (starEach es X.env)).any (·.1) = false := by rfl) : WE X ρ G (.Call (.Name x p) (e :: es) [] pos) Q :=
  we_pe (pe_call F hr hg hm hk hb .nil pass0 pa_wa hdb he hpl) fun σ H St => ⟨ρ, G, _, ha, St, fun vs H1 ⟨_, _, e1, o1, r1, q1, q1'⟩ => by
    subst q1; subst q1'
    refine ⟨_, _, Q, o1, by rw [List.append_nil]; exact r1, hS, fun v H' d G' e' o' r' q' => ⟨d, G', e1.trans e', o', r', q'⟩⟩⟩
end
structure Df (P : Program) (w : World) (K : PySem.W.Frag) (mg : Str → Option Value) (base : Heap) (x : Str) (ps : List Str) (k : Nat) (S : SpD) : Prop where
  ex : ∃ f fd, FnOk P w K mg base CX0 k f fd ps (liftG K S) ∧ mg x = some (.ref f) ∧ PySem.W.keepIn K (.ref f) = true ∧ Binds K fd ps []
section
variable {X : Cx} {ρ : Rho} {G : Gs} {e : Expr} {es : List Expr} {ds : List Dat} {pos p : Pos} {S : SpD} {k : Nat} {ps : List Str} {x : Str} {Q : Dat → Gs → Prop}
theorem we_df (F : Df X.prog X.w X.K X.mg X.base x ps k S) (hr : Room k X.A) (ha : PXs X ρ G (e :: es) ds) (hS : S ds G Q) (hg : Gl X x := by rfl)
    (hdb : (x == ("__debug__" : Str)) = false := by decide) (he : starEach (e :: es) X.env = (false, eval e X.env) :: starEach es X.env := by rfl) (hpl : (backTo pos (starEach es X.env)).any (·.1) = false := by rfl) : WE X ρ G (.Call (.Name x p) (e :: es) [] pos) Q := by
  obtain ⟨f, fd, F, hm, hk, hb⟩ := F.ex
  exact we_call F hr hm hk hb ha hS hg hdb he hpl
end
end TF
namespace TF
open PySem PySem.Spec L2
open PyProof.Rows hiding St RelV
mutual
def Dat.same : Dat → Dat → Bool
  | .non, .non => true
  | .bl a, .bl b => a == b
  | .int a, .int b => a == b
  | .str a, .str b => a == b
  | .fn a, .fn b => a == b
  | .scr a, .scr b => a == b
  | .tup l, .tup m => Dat.sameL l m
  | .lst l, .lst m => Dat.sameL l m
  | _, _ => false
def Dat.sameL : List Dat → List Dat → Bool
  | [], [] => true
  | x :: xs, y :: ys => Dat.same x y && Dat.sameL xs ys
  | _, _ => false
end
mutual
theorem Dat.same_eq : ∀ {a b : Dat}, Dat.same a b = true → a = b
  | .non, b, h => by cases b <;> simp_all [Dat.same]
  | .bl _, b, h => by cases b <;> simp_all [Dat.same]
  | .int _, b, h => by cases b <;> simp_all [Dat.same]
  | .str _, b, h => by cases b <;> simp_all [Dat.same]
  | .fn _, b, h => by cases b <;> simp_all [Dat.same]
  | .scr _, b, h => by cases b <;> simp_all [Dat.same]
  | .tup l, b, h => by
    cases b <;> simp only [Dat.same, Bool.false_eq_true] at h
    rw [Dat.sameL_eq h]
  | .lst l, b, h => by
    cases b <;> simp only [Dat.same, Bool.false_eq_true] at h
    rw [Dat.sameL_eq h]
theorem Dat.sameL_eq : ∀ {a b : List Dat}, Dat.sameL a b = true → a = b
  | [], b, h => by cases b <;> simp_all [Dat.sameL]
  | x :: xs, b, h => by
    cases b with
    | nil => simp [Dat.sameL] at h
    | cons y ys =>
      simp only [Dat.sameL, Bool.and_eq_true] at h
      rw [Dat.same_eq h.1, Dat.sameL_eq h.2]
end
mutual
theorem Dat.same_refl : ∀ (a : Dat), Dat.same a a = true
  | .non => by simp [Dat.same]
  | .bl _ => by simp [Dat.same]
  | .int _ => by simp [Dat.same]
  | .str _ => by simp [Dat.same]
  | .fn _ => by simp [Dat.same]
  | .scr _ => by simp [Dat.same]
  | .tup l => by simp only [Dat.same]; exact Dat.sameL_refl l
  | .lst l => by simp only [Dat.same]; exact Dat.sameL_refl l
theorem Dat.sameL_refl : ∀ (a : List Dat), Dat.sameL a a = true
  | [] => by simp [Dat.sameL]
  | x :: xs => by simp only [Dat.sameL, Bool.and_eq_true]; exact ⟨Dat.same_refl x, Dat.sameL_refl xs⟩
end
instance : DecidableEq Dat := fun a b => decidable_of_iff (Dat.same a b = true) ⟨Dat.same_eq, fun h => h ▸ Dat.same_refl a⟩
theorem keyD_plain : ∀ {n : Nat} {d : Dat}, keyD n d = true → plainD n d = true := by
  intro n
  induction n with
  | zero => intro d h; cases d <;> simp_all [keyD, plainD, flatD]
  | succ n ih =>
    intro d h
    cases d <;> simp only [keyD, Bool.false_eq_true] at h <;> first | rfl | skip
    simp only [plainD, List.all_eq_true] at h ⊢
    exact fun x hx => ih (h x hx)
theorem eqD_key : ∀ {n : Nat} {d e : Dat}, keyD n d = true → keyD n e = true → eqD d e = decide (d = e) := by
  intro n
  induction n with
  | zero =>
    intro d e h h'
    cases d <;> simp only [keyD, Bool.false_eq_true] at h <;> cases e <;> simp only [keyD, Bool.false_eq_true] at h'
    rename_i a b
    by_cases z : a = b <;> simp [eqD, z]
  | succ n ih =>
    have hl : ∀ (l m : List Dat), l.all (keyD n) = true → m.all (keyD n) = true → eqL l m = decide (l = m) := by
      intro l
      induction l with
      | nil => intro m _ _; cases m <;> simp [eqL]
      | cons x l ihl =>
        intro m h h'
        cases m with
        | nil => simp [eqL]
        | cons y m =>
          simp only [List.all_cons, Bool.and_eq_true] at h h'
          rw [eqL, ih h.1 h'.1, ihl m h.2 h'.2]
          by_cases z1 : x = y <;> by_cases z2 : l = m <;> simp [z1, z2]
    intro d e h h'
    cases d <;> simp only [keyD, Bool.false_eq_true] at h <;> cases e <;> simp only [keyD, Bool.false_eq_true] at h'
    · rename_i a b
      by_cases z : a = b <;> simp [eqD, z]
    · simp [eqD]
    · simp [eqD]
    · rename_i l m
      rw [eqD, hl l m h h']
      by_cases z : l = m <;> simp [z]
mutual
def drawD : Dat → Nat
  | .tup l => drawL l + 1
  | _ => 1
def drawL : List Dat → Nat
  | [] => 0
  | d :: r => drawD d + drawL r
end
theorem hashL_append : ∀ (a b : List Dat), hashL (a ++ b) = hashL a ++ hashL b
  | [], _ => by simp [hashL]
  | d :: a, b => by simp only [List.cons_append, hashL]; rw [hashL_append a b]
theorem drawL_append : ∀ (a b : List Dat), drawL (a ++ b) = drawL a + drawL b
  | [], _ => by simp [drawL]
  | d :: a, b => by simp only [List.cons_append, drawL]; rw [drawL_append a b]; omega
section
variable {prog : Program} {w : World}
theorem hash_of : ∀ (n : Nat) {A : Around} {E : Value → Shared → Prop} {s : Shared} {d : Dat} {u : Value} {Q : Int → Shared → Prop}, keyD n d = true → AtH s.heap d u → A.units + n < cLine → Q (hashD d) { s with toks := s.toks + drawD d } →
    wpAny (model prog w) A (pyHash u) Q E s := by
  have onInt : ∀ {A : Around} {E : Value → Shared → Prop} {s : Shared} {i : Int} {u : Value} {Q : Int → Shared → Prop}, AtH s.heap (.int i) u → Q (hashD (.int i)) { s with toks := s.toks + drawD (.int i) } → wpAny (model prog w) A (pyHash u) Q E s := by
    intro A E s i u Q r h
    rw [AtH] at r
    obtain ⟨t, rfl⟩ := r
    rw [hashD, drawD] at h
    · exact wpAny_pyHash_int h
    · intro l; exact nofun
  intro n
  induction n with
  | zero =>
    intro A E s d u Q hk r hu h
    cases d <;> simp only [keyD, Bool.false_eq_true] at hk
    exact onInt r h
  | succ n ih =>
    intro A E s d u Q hk r hu h
    cases d <;> simp only [keyD, Bool.false_eq_true] at hk
    · exact onInt r h
    rename_i l
    rw [AtH] at r
    obtain ⟨a, its, rfl, ht, hi⟩ := r
    have hT : s.TypeIs (.ref a) "tuple" := let ⟨o, ho, hc, _⟩ := ht; ⟨o, ho, hc⟩
    obtain ⟨o, ho, _, m, hd⟩ := ht
    unfold pyHash
    first | unfold pyHashByItsType | skip
    first | refine wpAny_bind (wpAny_cRoomFor_or (.inr (by omega)) ?_) | skip
    refine wpAny_bind (wpAny_specialOf hT F.slot_tuple_hash.lookup ?_)
    show wpAny _ _ (if (some (Value.builtin "tuple.__hash__") == some Value.none) = true then _ else _) Q E s
    rw [if_neg (by rw [beq_builtin_none]; exact Bool.false_ne_true)]
    refine wpAny_bind (wpAny_specialOf hT F.slot_tuple_hash.lookup ?_)
    show wpAny _ _ (callSpecialIfBoundUnlessNone? (.ref a) "__hash__" _ >>= _) Q E s
    refine wpAny_bind (wpAny_callSpecialIfBoundUnlessNone?_slot hT F.slot_tuple_hash (wpAny_call_entry F.slot_tuple_hash hT F.entry_tuple_hash ?_ (F.args_tuple_hash_1 _)))
    show wpAny _ _ (Builtin.Tuple.tupleItemsOf (.ref a) >>= _) _ _ s
    refine wpAny_bind (wpAny_tupleItemsOf ho hd ?_)
    refine wpAny_bind ?_
    rw [← Array.forIn_toList]
    refine wpAny_forIn_list _
      (fun rest (b : Array Int) s' => ∃ done left, l = done ++ left ∧ AtL s.heap left rest ∧ b.toList = hashL done ∧ s' = { s with toks := s.toks + drawL done })
      _ ?_ ?_ _ _ ⟨[], l, rfl, hi, rfl, rfl⟩
    · rintro x rest b s' ⟨done, left, rfl, hl, hb, rfl⟩
      cases left with
      | nil => rw [AtL] at hl; cases hl
      | cons k ks' =>
        rw [AtL] at hl
        obtain ⟨u, r, e, h1, hl'⟩ := hl
        cases e
        have hkk : keyD n k = true := by
          have := List.all_eq_true.mp hk k (by simp)
          exact this
        refine wpAny_bind (ih hkk h1 (by show A.units + 1 + n < cLine; omega) ?_)
        have fin : ∃ done' left', done ++ k :: ks' = done' ++ left' ∧ AtL s.heap left' rest ∧ (b.push (hashD k)).toList = hashL done' ∧ ({ s with toks := s.toks + drawL done + drawD k } : Shared) = { s with toks := s.toks + drawL done' } :=
          ⟨done ++ [k], ks', by simp, hl', by simp [hb, hashL_append, hashL], by rw [drawL_append]; simp [drawL, Nat.add_assoc]⟩
        first
          | exact wpAny_pure fin
          | exact wpAny_bind (wpAny_pure (wpAny_pure fin))
    · rintro b s' ⟨done, left, rfl, hl, hb, rfl⟩
      cases left with
      | cons k ks' => rw [AtL] at hl; obtain ⟨_, _, e, _⟩ := hl; cases e
      | nil =>
        rw [List.append_nil, hashD, drawD] at h
        show wpAny _ _ (retInt (Builtin.Tuple.tupleHashOf b.toList)) _ _ _
        rw [hb]
        refine wpAny_ret_mkInt ?_
        show wpAny _ _ (if (decide (-(2 : Int) ^ 63 ≤ Builtin.Tuple.tupleHashOf (hashL done)) && decide (Builtin.Tuple.tupleHashOf (hashL done) < 2 ^ 63)) = true then _ else _) Q E _
        unfold reduceHash at h
        by_cases hr : (decide (-(2 : Int) ^ 63 ≤ Builtin.Tuple.tupleHashOf (hashL done)) && decide (Builtin.Tuple.tupleHashOf (hashL done) < 2 ^ 63)) = true
        · rw [if_pos hr]
          rw [if_pos hr] at h
          exact wpAny_pure (by simpa [Nat.add_assoc] using h)
        · rw [if_neg hr]
          rw [if_neg hr] at h
          exact wpAny_bind (wpAny_rule (wpAny_pure (by simpa [Nat.add_assoc] using h)))
theorem quiet_of : ∀ (n m : Nat) {A : Around} {E : Value → Shared → Prop} {s : Shared} {d : Dat} {u : Value} {Q : Bool → Shared → Prop}, n ≤ m → keyD n d = true → AtH s.heap d u → Q true s → wpAny (model prog w) A (eqIsQuiet m u) Q E s := by
  have onInt : ∀ {m : Nat} {A : Around} {E : Value → Shared → Prop} {s : Shared} {i : Int} {u : Value} {Q : Bool → Shared → Prop}, AtH s.heap (.int i) u → Q true s → wpAny (model prog w) A (eqIsQuiet m u) Q E s := by
    intro m A E s i u Q r h
    rw [AtH] at r
    obtain ⟨t, rfl⟩ := r
    rw [eqIsQuiet_byValue m rfl]
    exact wpAny_pure h
  intro n
  induction n with
  | zero =>
    intro m A E s d u Q _ hk r h
    cases d <;> simp only [keyD, Bool.false_eq_true] at hk
    exact onInt r h
  | succ n ih =>
    intro m A E s d u Q hm hk r h
    cases d <;> simp only [keyD, Bool.false_eq_true] at hk
    · exact onInt r h
    rename_i l
    obtain ⟨m', rfl⟩ : ∃ m', m = m' + 1 := ⟨m - 1, by omega⟩
    rw [AtH] at r
    obtain ⟨a, its, rfl, ht, hi⟩ := r
    have hT : s.TypeIs (.ref a) "tuple" := let ⟨o, ho, hc, _⟩ := ht; ⟨o, ho, hc⟩
    obtain ⟨o, ho, _, q, hd⟩ := ht
    unfold eqIsQuiet
    refine wpAny_bind (wpAny_specialOf hT F.slot_tuple_eq.lookup ?_)
    show wpAny _ _ (isInstance (.ref a) (.type "tuple") >>= _) _ _ s
    refine wpAny_bind (wpAny_isInstance hT isSubtype_tuple_tuple ?_)
    simp only [Bool.not_true, Bool.false_eq_true, if_false]
    refine wpAny_bind (wpAny_seqItems ho hd ?_)
    refine wpAny_bind ?_
    show wpAny _ _ (forIn its.toArray _ _) _ _ s
    rw [← Array.forIn_toList]
    refine wpAny_forIn_list _ (fun rest r s' => r.1 = none ∧ s' = s ∧ ∃ left, AtL s.heap left rest ∧ left.all (keyD n) = true) _ ?_ ?_ _ _ ⟨rfl, rfl, l, hi, hk⟩
    · rintro v rest r s' ⟨hr, rfl, left, hl, hall⟩
      cases left with
      | nil => rw [AtL] at hl; cases hl
      | cons k ks =>
        rw [AtL] at hl
        obtain ⟨u, r', e, h1, hl'⟩ := hl
        cases e
        simp only [List.all_cons, Bool.and_eq_true] at hall
        refine wpAny_bind (ih m' (by omega) hall.1 h1 ?_)
        simp only [Bool.not_true, Bool.false_eq_true, if_false]
        exact wpAny_pure ⟨rfl, rfl, ks, hl', hall.2⟩
    · rintro ⟨r1, r2⟩ s' ⟨hr, rfl, _⟩
      simp only at hr
      subst hr
      exact wpAny_pure h
def KeyAt (h : Heap) (k : Dat) (a : Addr) : Prop := keyD 6 k = true ∧ AtH h k (.ref a)
mutual
theorem AtH.keeps {h h' : Heap} {d : Addr} {o : Obj} {es ep} (ho : h.get? d = some o) (hd : o.data = .dict es ep) (hs : Heap.SameBut d h h') : ∀ {k : Dat} {u : Value}, AtH h k u → AtH h' k u
  | .non, _, r => by rw [AtH] at r ⊢; exact r
  | .bl _, _, r => by rw [AtH] at r ⊢; exact r
  | .int _, _, r => by rw [AtH] at r ⊢; exact r
  | .str _, _, r => by rw [AtH] at r ⊢; exact r
  | .fn _, _, r => by rw [AtH] at r ⊢; exact r
  | .scr _, _, r => by rw [AtH] at r; exact r.elim
  | .tup l, _, r => by
    rw [AtH] at r ⊢
    obtain ⟨a, its, e, ⟨o', h1, h2, n, h3⟩, h4⟩ := r
    have hne : a ≠ d := by
      rintro rfl
      rw [ho] at h1; cases h1
      rw [hd] at h3; cases h3
    exact ⟨a, its, e, ⟨o', (hs.2 a hne).trans h1, h2, n, h3⟩, AtL.keeps ho hd hs h4⟩
  | .lst l, _, r => by
    rw [AtH] at r ⊢
    obtain ⟨a, its, e, ⟨o', h1, h2, n, h3⟩, h4⟩ := r
    have hne : a ≠ d := by
      rintro rfl
      rw [ho] at h1; cases h1
      rw [hd] at h3; cases h3
    exact ⟨a, its, e, ⟨o', (hs.2 a hne).trans h1, h2, n, h3⟩, AtL.keeps ho hd hs h4⟩
theorem AtL.keeps {h h' : Heap} {d : Addr} {o : Obj} {es ep} (ho : h.get? d = some o) (hd : o.data = .dict es ep) (hs : Heap.SameBut d h h') : ∀ {k : List Dat} {u : List Value}, AtL h k u → AtL h' k u
  | [], _, r => by rw [AtL] at r ⊢; exact r
  | _ :: _, _, r => by
    rw [AtL] at r ⊢
    obtain ⟨u, q, e, h1, h2⟩ := r
    exact ⟨u, q, e, AtH.keeps ho hd hs h1, AtL.keeps ho hd hs h2⟩
end
def datKind (prog : Program) (w : World) : HeapKind prog w Dat where
  is := KeyAt
  hash := hashD
  draws := drawD
  room := fun A => A.units + 6 < cLine
  inj := fun hx hy => AtH.inj 6 (keyD_plain hx.1) (keyD_plain hy.1) hx.2 hy.2
  keeps := fun x ho hd hs => ⟨x.1, x.2.keeps ho hd hs⟩
  pyHash := fun hu hk h => hash_of 6 hk.1 hk.2 hu h
  eqBool := fun hu hx hy h => (eqAt_D 6 (keyD_plain hx.1) (keyD_plain hy.1) hx.2 hy.2 hu).1 _ _ _ _ (by rw [eqD_key hx.1 hy.1]; exact h)
  quiet := fun hk h => quiet_of 6 8 (by decide) hk.1 hk.2 h
end
end TF
namespace TF
open PySem PySem.Spec L2
open PyProof.Rows hiding St RelV
def lookD (kvs : List (Dat × Dat)) (k : Dat) : Option Dat := (kvs.find? fun x => decide (x.1 = k)).map (·.2)
def putD (kvs : List (Dat × Dat)) (k v : Dat) : List (Dat × Dat) := if (lookD kvs k).isSome then kvs.map (fun x => if x.1 = k then (x.1, v) else x) else kvs ++ [(k, v)]
theorem putD_new {kvs : List (Dat × Dat)} {k v : Dat} (h : lookD kvs k = none) : putD kvs k v = kvs ++ [(k, v)] := by simp [putD, h]
theorem DRep.length {K : PySem.W.Frag} {H : Hp} : ∀ {kvs : List (Dat × Dat)} {xs : List (Dat × Addr × Value)}, DRep K H kvs xs → xs.length = kvs.length
  | [], _, h => by rw [DRep] at h; subst h; rfl
  | (k, d) :: r, _, h => by
    rw [DRep] at h
    obtain ⟨a, u, xs', rfl, _, _, _, h6⟩ := h
    rw [List.length_cons, List.length_cons, DRep.length h6]
theorem DRep.keys {K : PySem.W.Frag} {H : Hp} : ∀ {kvs : List (Dat × Dat)} {xs : List (Dat × Addr × Value)}, DRep K H kvs xs → ∀ x ∈ xs, keyD 6 x.1 = true ∧ Rep K H x.1 (.ref x.2.1)
  | [], _, h, x, hx => by rw [DRep] at h; subst h; cases hx
  | (k, d) :: r, _, h, x, hx => by
    rw [DRep] at h
    obtain ⟨a, u, xs', rfl, h2, h3, _, h6⟩ := h
    rcases List.mem_cons.mp hx with e | hx
    · subst e; exact ⟨h2, h3⟩
    · exact DRep.keys h6 x hx
theorem DRep.look {K : PySem.W.Frag} {H : Hp} (k : Dat) : ∀ {kvs : List (Dat × Dat)} {xs : List (Dat × Addr × Value)}, DRep K H kvs xs → (lookD kvs k).isSome = (atKey xs k).isSome ∧ ∀ d, lookD kvs k = some d → ∃ p v, atKey xs k = some p ∧ RelV v p.2 ∧ Rep K H d v
  | [], _, h => by rw [DRep] at h; subst h; exact ⟨rfl, fun d e => by simp [lookD] at e⟩
  | (k', d') :: r, _, h => by
    rw [DRep] at h
    obtain ⟨a, u, xs', rfl, _, _, ⟨v, h4, h5⟩, h6⟩ := h
    by_cases e : k' = k
    · subst e
      refine ⟨by simp [lookD, atKey], fun d hd => ⟨(a, u), v, by simp [atKey], h4, ?_⟩⟩
      simp [lookD] at hd
      subst hd
      exact h5
    · have := DRep.look k h6
      have e1 : lookD ((k', d') :: r) k = lookD r k := by simp [lookD, e]
      have e2 : atKey ((k', a, u) :: xs') k = atKey xs' k := by simp [atKey, e]
      rw [e1, e2]
      exact this
theorem DRep.put {K : PySem.W.Frag} {H : Hp} {k d : Dat} {a : Addr} {u : Value} {v : V} (hk : keyD 6 k = true) (ra : Rep K H k (.ref a)) (ru : RelV v u) (rd : Rep K H d v) {kvs : List (Dat × Dat)} {xs : List (Dat × Addr × Value)} (h : DRep K H kvs xs) :
    DRep K H (putD kvs k d) (storedH xs k a u) := by
  have look := (DRep.look k h).1
  have app : ∀ {kvs : List (Dat × Dat)} {xs : List (Dat × Addr × Value)}, DRep K H kvs xs → DRep K H (kvs ++ [(k, d)]) (xs ++ [(k, a, u)]) := by
    intro kvs
    induction kvs with
    | nil => intro xs h; rw [DRep] at h; subst h; exact ⟨a, u, [], rfl, hk, ra, ⟨v, ru, rd⟩, rfl⟩
    | cons p r ih =>
      intro xs h
      obtain ⟨k', d'⟩ := p
      rw [DRep] at h
      obtain ⟨a', u', xs', rfl, h2, h3, h4, h6⟩ := h
      exact ⟨a', u', _, rfl, h2, h3, h4, ih h6⟩
  have map : ∀ {kvs : List (Dat × Dat)} {xs : List (Dat × Addr × Value)}, DRep K H kvs xs → DRep K H (kvs.map fun x => if x.1 = k then (x.1, d) else x) (xs.map (putAt k u)) := by
    intro kvs
    induction kvs with
    | nil => intro xs h; rw [DRep] at h; subst h; rfl
    | cons p r ih =>
      intro xs h
      obtain ⟨k', d'⟩ := p
      rw [DRep] at h
      obtain ⟨a', u', xs', rfl, h2, h3, h4, h6⟩ := h
      rw [List.map_cons, List.map_cons]
      by_cases e : k' = k
      · simp only [e, if_true, putAt]
        subst e
        exact ⟨a', u, _, rfl, h2, h3, ⟨v, ru, rd⟩, ih h6⟩
      · simp only [e, if_false, putAt]
        exact ⟨a', u', _, rfl, h2, h3, h4, ih h6⟩
  unfold putD storedH
  rw [look]
  by_cases e : (atKey xs k).isSome = true
  · rw [if_pos e, if_pos e]; exact map h
  · rw [if_neg e, if_neg e]; exact app h
section
variable {X : Cx} {pins : List (Addr × Obj)} {σ : St} {H : Hp} {s : Shared} {p : Addr} {G : Gs} {kvs : List (Dat × Dat)} {xs : List (Dat × Addr × Value)}
theorem Inv.big (I : Inv X pins σ H s) : sysModules < s.heap.objs.size := by
  have h : mainGlobals < s.heap.objs.size := (I.mod.glob.keeps I.bk).lt
  exact Nat.lt_trans (by decide) h
theorem key_at (I : Inv X pins σ H s) {k : Dat} {a : Addr} (hk : keyD 6 k = true) (r : Rep X.K H k (.ref a)) : KeyAt s.heap k a := ⟨hk, r.at I (keyD_plain hk) rfl⟩
theorem dict_of (I : Inv X pins σ H s) (h : H p = some (dctO p xs)) (r : DRep X.K H kvs xs) : (p == sysModules) = false ∧ xs.length ≤ sizeLine ∧ s.heap.DictOfH (datKind X.prog X.w) p xs := by
  obtain ⟨⟨h1, h2, h3, o, es, ep, h4, h5, h6, h7⟩, _, _⟩ := (show ObjOk X.prog X.w H s.heap p (.ext (DictAt p xs)) from I.hok p _ h)
  exact ⟨h1, h2, o, es, ep, h4, h5, h6, h7, fun x hx => key_at I (r.keys x hx).1 (r.keys x hx).2, h3⟩
theorem dct_ok {P : Program} {w : World} {H : Hp} {h : Heap} (d : DictAt p xs h) : ObjOk P w H h p (dctO p xs) := by
  obtain ⟨h1, h2, h3, o, es, ep, h4, h5⟩ := id d
  exact ⟨d, ⟨o, h4⟩, fun k1 k2 ⟨g1, g2, g3, o', es', ep', g4, g5⟩ hk => ⟨g1, g2, g3, o', es', ep', hk _ g4, g5⟩⟩
theorem own_dct {xs' : List (Dat × Addr × Value)} {kvs' : List (Dat × Dat)} (o : GOk X.K H G) (hG : G p = some (.dct kvs)) (r : DRep X.K (hid H G) kvs' xs') : Ext H G (upd H p (dctO p xs')) (put G p (.dct kvs')) ∧ GOk X.K (upd H p (dctO p xs')) (put G p (.dct kvs')) := by
  have E : Ext H G (upd H p (dctO p xs')) (put G p (.dct kvs')) := ⟨fun b u e h => by
    have : b ≠ p := by rintro rfl; rw [hG] at h; cases h
    rw [upd_ne this]; exact e, fun b h => by
    by_cases hb : b = p
    · subst hb; left; rw [hG]; exact nofun
    · rw [put_ne hb] at h; exact .inl h⟩
  refine ⟨E, fun b u q => ?_⟩
  by_cases hb : b = p
  · subst hb
    rw [put_same] at q
    cases q
    exact ⟨xs', upd_same, r.same E.hid⟩
  · rw [put_ne hb] at q
    exact (o b u q).ext E.hid (upd_ne hb)
theorem own_dctN (o : GOk X.K H G) (hp : H p = none) : Ext H G (upd H p (dctO p [])) (put G p (.dct [])) ∧ GOk X.K (upd H p (dctO p [])) (put G p (.dct [])) := by
  have E : Ext H G (upd H p (dctO p [])) (put G p (.dct [])) := ⟨fun b u e _ => by rw [upd_ne (ne_of_none e hp)]; exact e, fun b h => by
    by_cases hb : b = p
    · subst hb; exact .inr hp
    · rw [put_ne hb] at h; exact .inl h⟩
  refine ⟨E, fun b u q => ?_⟩
  by_cases hb : b = p
  · subst hb
    rw [put_same] at q
    cases q
    exact ⟨[], upd_same, rfl⟩
  · rw [put_ne hb] at q
    exact (o b u q).ext E.hid (upd_ne hb)
end
section
variable {X : Cx} {ρ : Rho} {G : Gs} {e a b c : Expr} {d k : Dat} {p : Addr} {kvs : List (Dat × Dat)} {pos : Pos}
theorem pxc_dnotin (hu : X.A.units + 9 < cLine) (ha : PX X ρ G a k) (hb : PX X ρ G b (.fn p)) (hG : G p = some (.dct kvs)) (hk : keyD 6 k = true) (hr : ∃ l, k = .tup l) : PXC X ρ G .NotIn a b (.bl (!(lookD kvs k).isSome)) := by
  intro pins s σ H I S
  refine thn (ha pins s σ H I S) fun v s1 ⟨x, H1, I1, rx, _, _, e1, o1, r1, q1, q1'⟩ => ?_
  subst q1; subst q1'
  refine thn (hb pins s1 σ H1 I1 (S.ext e1 o1)) fun u s2 ⟨y, H2, I2, ry, _, _, e2, o2, r2, q2, q2'⟩ => ?_
  subst q2; subst q2'
  cases (show y = V.ref p from r2)
  cases ry
  obtain ⟨l, rfl⟩ := hr
  have r1' := (r1.same e2.hid).same hid_le
  have hx : ∃ t, x = V.ref t := by rw [Rep] at r1'; obtain ⟨t, _, e, _⟩ := r1'; exact ⟨t, e⟩
  obtain ⟨t, rfl⟩ := hx
  cases rx
  obtain ⟨xs, h3, r3⟩ := o2 p _ hG
  obtain ⟨z1, z2, dd⟩ := dict_of I2 h3 (r3.same hid_le)
  refine wpAny_notIn_heap (knd := datKind X.prog X.w) (show X.A.units + 1 + 6 < cLine by omega) (key_at I2 hk r1') z1 dd ⟨.bl _, H2, I2.tok _, rfl, .bl _, _, e1.trans e2, o2, ?_, rfl, rfl⟩
  rw [← (DRep.look _ r3).1]
  rfl
end
end TF
namespace TF
open PySem PySem.Spec L2
open PyProof.Rows hiding St RelV
section
variable {X : Cx}
end
end TF
namespace TF
open PySem PySem.Spec L2
open PyProof.Rows hiding St RelV
theorem putD_length (kvs : List (Dat × Dat)) (k v : Dat) : (putD kvs k v).length ≤ kvs.length + 1 := by
  unfold putD
  split
  · rw [List.length_map]; omega
  · rw [List.length_append, List.length_singleton]; exact Nat.le_refl _
section
variable {X : Cx} {ρ : Rho} {G : Gs} {e a b c : Expr} {es : List Expr} {d d' d1 d2 k : Dat} {ds l m : List Dat} {pos : Pos} {i j : Int} {p : Addr} {kvs : List (Dat × Dat)} {D : DE} {rest : List Stmt}
theorem wa_nil {Q : List Dat → Gs → Prop} (h : Q [] G) : WA X ρ G [] Q := wa_pa pa_nil fun σ H S => ⟨[], G, Ext.refl, S.own, RepL.nil, h⟩
theorem wa_cons {Q : List Dat → Gs → Prop} (h : WE X ρ G e fun d G1 => WA X ρ G1 es fun ds G2 => Q (d :: ds) G2) (hs : starEach (e :: es) X.env = (false, eval e X.env) :: starEach es X.env := by rfl) : WA X ρ G (e :: es) Q :=
  wa_pa (pa_cons pe_we pa_wa hs) fun σ H S => ⟨ρ, G, _, h, S, fun x H1 ⟨d, G1, e1, o1, r1, w1⟩ => ⟨ρ, G1, _, w1, S.ext e1 o1, fun xs H2 ⟨ds, G2, e2, o2, r2, q2⟩ => ⟨d :: ds, G2, e1.trans e2, o2, RepL.cons (r1.same e2.hid) r2, q2⟩⟩⟩
theorem we_dfA {S : SpD} {kk : Nat} {ps : List Str} {x : Str} {pp : Pos} {Q : Dat → Gs → Prop} (F : Df X.prog X.w X.K X.mg X.base x ps kk S) (hr : Room kk X.A) (ha : WA X ρ G (e :: es) fun ds G' => S ds G' Q) (hg : Gl X x := by rfl)
    (hdb : (x == ("__debug__" : Str)) = false := by decide) (he : starEach (e :: es) X.env = (false, eval e X.env) :: starEach es X.env := by rfl) (hpl : (backTo pos (starEach es X.env)).any (·.1) = false := by rfl) : WE X ρ G (.Call (.Name x pp) (e :: es) [] pos) Q := by
  obtain ⟨f, fd, F, hm, hk, hb⟩ := F.ex
  exact we_pe (pe_call F hr hg hm hk hb .nil pass0 pa_wa hdb he hpl) fun σ H St => ⟨ρ, G, _, ha, St, fun vs H1 ⟨ds, G1, e1, o1, r1, q1⟩ => ⟨ds, G1, Q, o1, by rw [List.append_nil]; exact r1, q1, fun v H' d G' e' o' r' q' => ⟨d, G', e1.trans e', o', r', q'⟩⟩⟩
theorem we_dnew {Q : Dat → Gs → Prop} (h : ∀ p, G p = none → Q (.fn p) (put G p (.dct []))) : WE X ρ G (.Dict [] [] pos) Q := fun pins s σ H I S => by
  refine wpAny_Dict_empty ⟨.ref s.heap.objs.size, _, I.laid (a := s.heap.objs.size) (o := dctO s.heap.objs.size []) (t' := s.toks) (fun _ _ q => Heap.get?_push_of_some _ q) (Nat.le_refl _) ?_, rfl, ?_⟩
  · refine dct_ok ⟨beq_eq_false_iff_ne.mpr (Ne.symm (Nat.ne_of_lt (Inv.big I))), Nat.zero_le _, List.nodup_nil, _, #[], 0, Heap.get?_push_size _ rfl, ⟨rfl, rfl, rfl⟩, rfl, rfl⟩
  · have hp : H s.heap.objs.size = none := I.hok.fresh (Nat.le_refl _)
    obtain ⟨E, O⟩ := own_dctN (X := X) S.own hp
    exact ⟨.fn s.heap.objs.size, _, E, O, rfl, h _ (S.own.free hp)⟩
theorem px_dget (hu : X.A.units + 9 < cLine) (ha : PX X ρ G a (.fn p)) (hb : PX X ρ G b k) (hG : G p = some (.dct kvs)) (hk : keyD 6 k = true) (hr : ∃ l, k = .tup l) (hl : lookD kvs k = some d) (hs : PlainIx b := by intro _ _; rfl) : PX X ρ G (.Subscript a b pos) d := by
  intro pins s σ H I S
  refine Subscript_ (thn (ha pins s σ H I S) fun u s1 ⟨x, H1, I1, rx, _, _, e1, o1, r1, q1, q1'⟩ => ?_)
  subst q1; subst q1'
  refine thn (hb pins s1 σ H1 I1 (S.ext e1 o1)) fun iv s2 ⟨y, H2, I2, ry, _, _, e2, o2, r2, q2, q2'⟩ => ?_
  subst q2; subst q2'
  cases (show x = V.ref p from r1)
  cases rx
  obtain ⟨l, rfl⟩ := hr
  have r2' := r2.same hid_le
  have hx : ∃ t, y = V.ref t := by rw [Rep] at r2'; obtain ⟨t, _, e, _⟩ := r2'; exact ⟨t, e⟩
  obtain ⟨t, rfl⟩ := hx
  cases ry
  obtain ⟨xs, h3, r3⟩ := o2 p _ hG
  obtain ⟨z1, z2, dd⟩ := dict_of I2 h3 (r3.same hid_le)
  obtain ⟨q, v, hq, rv, rd⟩ := (DRep.look _ r3).2 d hl
  refine tail_any (ops := [.ref p, .ref t]) dd.typeIs PySem.F.slot_dict_getitem.lookup ?_ (hs _ _)
  exact wpAny_getItem_heap (knd := datKind X.prog X.w) (show X.A.units + 1 + 6 < cLine by omega) (key_at I2 hk r2') dd hq ⟨v, H2, I2.tok _, rv, d, _, e1.trans e2, o2, rd, rfl, rfl⟩
theorem wss_dput {pos' : Pos} (hu : X.A.units + 9 < cLine) (hv : PX X ρ G e d) (ha : PX X ρ G a (.fn p)) (hb : PX X ρ G b k) (hG : G p = some (.dct kvs)) (hk : keyD 6 k = true) (hr : ∃ l, k = .tup l) (hz : kvs.length < sizeLine)
    (q : WSs X ρ (put G p (.dct (putD kvs k d))) rest D) (hs : swapsWith e (some (.Subscript a b pos')) pos.line X.env = pure false := by rfl) : WSs X ρ G (.Assign [.Subscript a b pos'] e pos :: rest) D := wss_cons fun pins s σ H I S => by
  refine wpAny_Assign_Subscript (thn (hv pins s σ H I S) fun r s0 ⟨vv, H0, I0, rvv, _, _, e0, o0, r0, q0, q0'⟩ => ?_) hs
  subst q0; subst q0'
  refine thn (ha pins s0 σ H0 I0 (S.ext e0 o0)) fun u s1 ⟨x, H1, I1, rx, _, _, e1, o1, r1, q1, q1'⟩ => ?_
  subst q1; subst q1'
  refine thn (hb pins s1 σ H1 I1 (S.ext (e0.trans e1) o1)) fun iv s2 ⟨y, H2, I2, ry, _, _, e2, o2, r2, q2, q2'⟩ => ?_
  subst q2; subst q2'
  cases (show x = V.ref p from r1)
  cases rx
  obtain ⟨l, rfl⟩ := hr
  have r2' := r2.same hid_le
  have hx : ∃ t, y = V.ref t := by rw [Rep] at r2'; obtain ⟨t, _, e, _⟩ := r2'; exact ⟨t, e⟩
  obtain ⟨t, rfl⟩ := hx
  cases ry
  obtain ⟨xs, h3, r3⟩ := o2 p _ hG
  obtain ⟨z1, z2, dd⟩ := dict_of I2 h3 (r3.same hid_le)
  have rn := DRep.put hk r2 rvv (r0.same (e1.trans e2).hid) r3
  refine wpAny_setItem_heap (hsz := z2) (knd := datKind X.prog X.w) (show X.A.units + 1 + 6 < cLine by omega) (key_at I2 hk r2') dd fun h' dd' hsb => ?_
  obtain ⟨E, O⟩ := own_dct (X := X) o2 hG rn
  obtain ⟨o', es', ep', g1, g2, g3, g4, _, g5⟩ := dd'
  refine ⟨σ, _, I2.write (x := p) (e := p) (t' := s2.toks + drawD (.tup l)) (by rw [h3]; exact True.intro) (.inl rfl) (fun b o hb z => (hsb.2 b hb).trans z) ⟨o', g1⟩ (dct_ok ⟨z1, ?_, g5, o', es', ep', g1, g2, g3, g4⟩), ρ, _, (e0.trans (e1.trans e2)).trans E, S.ext ((e0.trans (e1.trans e2)).trans E) O, q⟩
  exact Nat.le_trans (Nat.le_of_eq rn.length) (Nat.le_trans (putD_length _ _ _) hz)
end
section
variable {X : Cx} {ρ : Rho} {G : Gs} {elt target iter : Expr} {ifs : List Expr} {scope : Scope} {cpos pos pos' : Pos} {tail : Env → Value → Sem Unit} {Nc : List Str} {caps : List (Option Nat)} {l : List Dat} {f : Dat → Rho → Option Rho} {D : DE} {rest : List Stmt}
theorem wss_setComp (n : Nat) {x : Str} (Pv : Nat → List Dat → Gs → Prop) (hN : X.N.Nodup) (ht : TurnIs elt target iter ifs scope cpos tail) (Sc : CompSc X scope Nc caps) (hcalm : X.calm = true) (hi : WI X ρ G target iter fun l' G' => l' = l ∧ Pv 0 [] G')
    (hg : ∀ C s' H' fp, PGD (compCx X Nc scope C s' H' fp) target f) (hle : ∀ d ρ', f d (pick caps ρ) = some ρ' → ρ'.length = (pick caps ρ).length ∧ ∀ (j : Nat) e, (pick caps ρ)[j]? = some (some e) → ρ'[j]? = some (some e)) (hz : l.length ≤ sizeLine)
    (hstep : ∀ C s' H' fp D i d acc G', l[i]? = some d → Pv i acc G' → G' D = none → ∃ ρ', f d (pick caps ρ) = some ρ' ∧
      WTail (compCx X Nc scope C s' H' fp) ρ' (put G' D (.lst acc)) (tail (compCx X Nc scope C s' H' fp).env (.ref D)) fun G'' => ∃ acc' G4, acc'.length ≤ acc.length + 1 ∧ G4 D = none ∧ G'' = put G4 D (.lst acc') ∧ Pv (i + 1) acc' G4)
    (hd : ∀ acc G', Pv l.length acc G' → WSs X (ρ.set n (some (.lst acc))) G' rest D) (hn : X.N[n]? = some x := by rfl) (hx : X.env.kindOf x = some .local := by rfl) (hsw : swapsWith (.ListComp elt [⟨target, iter, ifs, 0⟩] scope cpos) (some (.Name x pos')) pos.line X.env = pure true := by rfl)
    (hfs : ∀ x, foldedSetIterable iter X.env x = pure x := by intro _; rfl) : WSs X ρ G (.Assign [.Name x pos'] (.ListComp elt [⟨target, iter, ifs, 0⟩] scope cpos) pos :: rest) D := wss_cons fun pins s σ H I S => by
  rw [exec_Assign_Name_used _ _ _ _ hsw]
  refine wpAny_bind (wpAny_standAt (wpAny_bind ?_))
  show wpAny _ X.A (do let _ ← comprehension (.ListComp elt [⟨target, iter, ifs, 0⟩] scope cpos) scope X.env _ (newList []) false (eval iter X.env) (some (assign (.Name x pos') X.env))) _ _ s
  refine wpAny_bind (wpAny_mono (wpAny_comprehension_free (use := some (assign (.Name x pos') X.env)) (Q := fun _ s' => SP X pins (lift X H G { D with nx := fun ρ' G' => WSs X ρ' G' rest D }) .next s') rfl hfs (closureFor_ok fun x hx hf => I.ok.has x.1 (Sc.free x hx hf)) Sc.kind Sc.names
    (thn (hi pins s σ H I S) fun v s1 h1 => thn h1 fun itv s2 h2 => ?_)) (fun _ s' hq => wpAny_pure (wpAny_pure hq)) fun _ _ e => e)
  obtain ⟨it, fp, tn, J, H2, e, I2, T, st2, f2, l', G2, e2, o2, wk, q, p0⟩ := h2
  subst e; subst q
  refine comp_core (RR := fun acc C => compPost (model X.prog X.w) X.A X.xe (some (assign (.Name x pos') X.env)) (fun _ s' => SP X pins (lift X H G { D with nx := fun ρ' G' => WSs X ρ' G' rest D }) .next s') acc C) Pv ht Sc hcalm hg hle hz hstep I2 (S.ext e2 o2) T st2 f2 wk p0 ?_
  rintro Dd C s3 sf σc Hf Gf acc k3 rfl ⟨H3, I3, f3, Ic⟩ ef of hGf pf
  obtain ⟨m, hm, _⟩ := Ic.loc
  have hch : ∀ b ∈ fp, (b ∈ X.ex ∨ X.s₀.heap.objs.size ≤ b) ∧ b ≠ X.env.locals ∧ (∀ x c, X.env.cells.lookup x = some c → c ≠ b) ∧ ∀ p ∈ X.pn ++ pins, p.1 ≠ b := fun b hb =>
    ⟨(f3 b hb).2.2.2.1, (f3 b hb).2.1, (f3 b hb).2.2.2.2.1, (f3 b hb).2.2.2.2.2⟩
  have I1 : Inv X pins σ Hf sf := I3.call' Ic.os Ic.base Ic.hok Ic.bare hch
  have hC : Hf s3.heap.objs.size = none := Ic.free
  have cellC : ∀ x c, X.env.cells.lookup x = some c → c ≠ s3.heap.objs.size := fun x c e z => by
    obtain ⟨v, o, ho, _⟩ := I3.cell x c e
    rw [z] at ho
    exact absurd (Heap.lt_size ho) (Nat.lt_irrefl _)
  obtain ⟨E, O, R⟩ := own_rel (X := X) of put_same
  rw [rel_put hGf] at E O R
  show wpAny (model X.prog X.w) X.A (assign (.Name x pos') X.env (.ref Dd)) _ _ sf
  refine wpAny_assign_Name (store_ok2 I1 hN hn (.inl hx) (v := .ref Dd) (show RelV (V.ref Dd) (Value.ref Dd) from rfl) (fun s'' I'' hsb => ?_) (.inr hx))
  obtain ⟨a, sb, ha⟩ := hsb
  have hne : s3.heap.objs.size ≠ a := by
    rcases ha with z | z
    · rw [z]; exact Nat.ne_of_gt I3.lt
    · exact Ne.symm (cellC _ _ z)
  refine ⟨m, Heap.Ns.sameBut (show sf.heap.Ns s3.heap.objs.size m from hm) sb hne, fun h' hs => ?_⟩
  have If : Inv X pins (σ.set n (some (.ref Dd))) Hf { s'' with heap := h' } := by
    refine I''.turned (t' := s''.toks) (it := s3.heap.objs.size) (fun b o hb e => hs.extBut b o hb e) hC (Nat.ne_of_gt I3.lt) (.inr I3.sz) cellC fun p hp z => ?_
    have := (I3.pin p hp).1
    rw [z] at this
    exact absurd (Heap.lt_size this) (Nat.lt_irrefl _)
  exact ⟨_, Hf, If, _, Gf, e2.trans (ef.trans E), (S.ext (e2.trans (ef.trans E)) O).set R, hd acc Gf pf⟩
end
end TF
set_option maxHeartbeats 4000000
namespace TF
open PySem PySem.Spec L2
open PyProof.Rows hiding St RelV
abbrev Sq := Int × Int
def sq (p : Sq) : Dat := .tup [.int p.1, .int p.2]
def fl (l : List Sq) : Dat := .tup (l.map sq)
def stone (p : Sq × Sq) : Dat := .tup [sq p.1, sq p.2]
theorem eqD_sq (p q : Sq) : eqD (sq p) (sq q) = decide (p = q) := by
  obtain ⟨a, b⟩ := p
  obtain ⟨c, d⟩ := q
  simp only [sq, eqD, eqL, Bool.and_true]
  rw [Bool.eq_iff_iff]
  simp [Prod.ext_iff]
theorem any_sq (l : List Sq) (p : Sq) : ((l.map sq).any fun e => eqD e (sq p)) = l.contains p := by
  rw [List.any_map]
  have : (fun e => eqD e (sq p)) ∘ sq = fun q => q == p := by
    funext q
    simp only [Function.comp, eqD_sq]
    rw [Bool.eq_iff_iff]; simp
  rw [this]
  induction l with
  | nil => rfl
  | cons q l ih =>
    rw [List.any_cons, List.contains_cons, ih]
    congr 1
    rw [Bool.eq_iff_iff, beq_iff_eq, beq_iff_eq]
    exact eq_comm
theorem plain_sq (p : Sq) (n : Nat) : plainD (n + 1) (sq p) = true := by
  simp only [sq, plainD, List.all_cons, List.all_nil, Bool.and_true, Bool.and_eq_true]
  exact ⟨plainD_flat rfl n, plainD_flat rfl n⟩
theorem plain_sqs (l : List Sq) (n : Nat) : (l.map sq).all (plainD (n + 1)) = true := by
  rw [List.all_eq_true]
  intro d hd
  obtain ⟨p, _, rfl⟩ := List.mem_map.mp hd
  exact plain_sq p n
theorem sq_inj {p q : Sq} (h : sq p = sq q) : p = q := by
  obtain ⟨a, b⟩ := p
  obtain ⟨c, d⟩ := q
  simp only [sq, Dat.tup.injEq, List.cons.injEq, Dat.int.injEq, and_true] at h
  rw [h.1, h.2]
theorem map_sq_inj : ∀ {l m : List Sq}, l.map sq = m.map sq → l = m
  | [], [], _ => rfl
  | [], _ :: _, h => by simp at h
  | _ :: _, [], h => by simp at h
  | p :: l, q :: m, h => by
    simp only [List.map_cons, List.cons.injEq] at h
    rw [sq_inj h.1, map_sq_inj h.2]
theorem fl_inj {l m : List Sq} (h : fl l = fl m) : l = m := by
  simp only [fl, Dat.tup.injEq] at h
  exact map_sq_inj h
theorem atI_map {α β : Type} (f : α → β) {l : List α} {i : Int} {x : α} (h : atI l i = some x) : atI (l.map f) i = some (f x) := by
  unfold atI at h ⊢
  rw [List.length_map]
  cases q : ixN l.length i with
  | none => rw [q] at h; cases h
  | some j => rw [q] at h; show (l.map f)[j]? = _; rw [List.getElem?_map, show l[j]? = some x from h]; rfl
def cellN (ns : List Int) (k : Nat) : Int := ns.getD k 0
end TF
namespace TF
open PySem PySem.Spec L2
open PyProof.Rows hiding St RelV
section
variable {X : Cx} {ρ : Rho} {G : Gs} {e a b c : Expr} {es : List Expr} {d : Dat} {pos : Pos} {D : DE} {rest x y : List Stmt} {p : Bool}
theorem wss_ifM (M : Rho → Gs → Prop) (hc : PXT X ρ G c p) (ht : p = true → WSs X ρ G x { D with nx := M }) (hf : p = false → WSs X ρ G y { D with nx := M }) (hr : ∀ ρ' G', M ρ' G' → WSs X ρ' G' rest D) : WSs X ρ G (.If c x y pos :: rest) D :=
  wss_if hc (fun h => (ht h).mono (fun ρ' G' q => hr ρ' G' q) (fun _ _ q => q) (fun _ _ q => q) fun _ _ q => q) (fun h => (hf h).mono (fun ρ' G' q => hr ρ' G' q) (fun _ _ q => q) (fun _ _ q => q) fun _ _ q => q)
theorem we_rel {Q : Dat → Gs → Prop} (h : WE X ρ G e fun d G' => ∃ q, Q d (rel G' q)) : WE X ρ G e Q := fun pins s σ H I S =>
  thn (h pins s σ H I S) fun _ _ z => EP.mono z fun v H' ⟨d, G', e', o', r', q, hq⟩ => by
    have E : Ext H' G' H' (rel G' q) := ⟨fun b u z _ => z, fun b hb => by
      by_cases hq : b = q
      · subst hq; rw [rel_same] at hb; exact absurd rfl hb
      · rw [rel_ne hq] at hb; exact .inl hb⟩
    refine ⟨d, rel G' q, e'.trans E, fun b u z => ?_, r'.same E.hid, hq⟩
    by_cases hbq : b = q
    · subst hbq; rw [rel_same] at z; cases z
    · rw [rel_ne hbq] at z
      exact (o' b u z).ext E.hid rfl
theorem bName_le {ρ : Rho} {i : Nat} (h : ρ[i]? = some none) : ∀ d ρ', bName i d ρ = some ρ' → ρ'.length = ρ.length ∧ ∀ (j : Nat) e, ρ[j]? = some (some e) → ρ'[j]? = some (some e) := by
  intro d ρ' e
  cases e
  refine ⟨List.length_set, fun j e' h' => ?_⟩
  by_cases z : i = j
  · subst z; rw [h] at h'; cases h'
  · rw [List.getElem?_set_ne z]; exact h'
end
end TF
namespace TF
open PySem PySem.Spec L2
open PyProof.Rows hiding St RelV
section
variable {X : Cx} {ρ : Rho} {G : Gs} {e a b c : Expr} {es : List Expr} {d d' d1 d2 d3 k : Dat} {ds l m : List Dat} {pos : Pos} {i j z : Int} {p : Addr} {kvs : List (Dat × Dat)} {D : DE} {rest body : List Stmt}
theorem px_call2 {f : Str} {id : String} {r : List V → Hp → VK → Prop} {pp : Pos} (hc : CallR X (.builtin id) r) (hg : Gl X f) (hm : X.mg f = none) (hv : bootBuiltins f = some (.builtin id)) (ha : PX X ρ G a d1) (hb : PX X ρ G b d2)
    (hr : ∀ (H : Hp) (x y : V) (Q : VK), GOk X.K H G → Rep X.K (hid H G) d1 x → Rep X.K (hid H G) d2 y → (∀ v H', Po X H G (fun d' G' => d' = d ∧ G' = G) v H' → Q v H') → r [x, y] H Q)
    (hn : f ≠ "__name__" := by decide) (hdb : (f == ("__debug__" : Str)) = false := by decide) (he : starEach [a, b] X.env = (false, eval a X.env) :: starEach [b] X.env := by rfl) (he2 : starEach [b] X.env = (false, eval b X.env) :: starEach [] X.env := by rfl)
    (hpl : (backTo pos (starEach [b] X.env)).any (·.1) = false := by rfl) : PX X ρ G (.Call (.Name f pp) [a, b] [] pos) d :=
  we_pe (pe_callB hc hg hm hv (pa_cons pe_we (pa_cons pe_we pa_nil he2) he) hn hdb he hpl) fun σ H S => ⟨ρ, G, _, ha, S, fun x H1 ⟨_, _, e1, o1, r1, q1, q1'⟩ => by
    subst q1; subst q1'
    refine ⟨ρ, _, _, hb, S.ext e1 o1, fun y H2 ⟨_, _, e2, o2, r2, q2, q2'⟩ => ?_⟩
    subst q2; subst q2'
    exact hr H2 x y _ o2 (r1.same e2.hid) r2 fun v H' z => Po.trans (e1.trans e2) z⟩
theorem px_max2 {pp : Pos} (hc : X.calm = true) (hm : X.mg "max" = none) (ha : PX X ρ G a (.int i)) (hb : PX X ρ G b (.int j)) (hg : Gl X "max" := by rfl) (he : starEach [a, b] X.env = (false, eval a X.env) :: starEach [b] X.env := by rfl) (he2 : starEach [b] X.env = (false, eval b X.env) :: starEach [] X.env := by rfl)
    (hpl : (backTo pos (starEach [b] X.env)).any (·.1) = false := by rfl) : PX X ρ G (.Call (.Name "max" pp) [a, b] [] pos) (.int (max i j)) :=
  px_call2 (call_max2 hc) hg hm (by decide +kernel) ha hb (fun H x y Q o rx ry k => by
    rw [Rep] at rx ry
    subst rx; subst ry
    refine ⟨i, j, rfl, k _ _ (po1' o ?_)⟩
    rw [Rep]
    congr 1
    split <;> omega) (he := he) (he2 := he2) (hpl := hpl)
theorem px_min2 {pp : Pos} (hc : X.calm = true) (hm : X.mg "min" = none) (ha : PX X ρ G a (.int i)) (hb : PX X ρ G b (.int j)) (hg : Gl X "min" := by rfl) (he : starEach [a, b] X.env = (false, eval a X.env) :: starEach [b] X.env := by rfl) (he2 : starEach [b] X.env = (false, eval b X.env) :: starEach [] X.env := by rfl)
    (hpl : (backTo pos (starEach [b] X.env)).any (·.1) = false := by rfl) : PX X ρ G (.Call (.Name "min" pp) [a, b] [] pos) (.int (min i j)) :=
  px_call2 (call_min2 hc) hg hm (by decide +kernel) ha hb (fun H x y Q o rx ry k => by
    rw [Rep] at rx ry
    subst rx; subst ry
    refine ⟨i, j, rfl, k _ _ (po1' o ?_)⟩
    rw [Rep]
    congr 1
    split <;> omega) (he := he) (he2 := he2) (hpl := hpl)
def SeqOf (G : Gs) (d : Dat) (l : List Dat) : Prop := d = .tup l ∨ d = .lst l ∨ ∃ p, d = .fn p ∧ G p = some (.lst l)
theorem seq_in {H : Hp} {K : PySem.W.Frag} {y : V} (h : SeqOf G d l) (o : GOk K H G) (r : Rep K (hid H G) d y) : ∃ p vs, y = .ref p ∧ (H p = some (.lst vs) ∨ SqT K H p vs) ∧ RepL K H l vs := by
  rcases h with rfl | rfl | ⟨p, rfl, hG⟩
  · exact in_of (.inl r)
  · exact in_of (.inr r)
  · obtain ⟨vs, h3, r3⟩ := o p _ hG
    exact ⟨p, vs, r, .inl h3, r3.same hid_le⟩
theorem pxc_inS (hu : X.A.units + 9 < cLine) (ha : PX X ρ G a d1) (hb : PX X ρ G b d2) (hl : SeqOf G d2 l) (p1 : plainD 8 d1 = true) (p2 : l.all (plainD 8) = true) : PXC X ρ G .In a b (.bl (l.any fun e => eqD e d1)) :=
  pxc_op (op_inD hu) ha hb fun H x y Q o hx hy k => by
    obtain ⟨p, vs, h1, h2, h3⟩ := seq_in hl o hy
    exact ⟨p, vs, d1, l, h1, h2, h3, hx.same hid_le, p1, p2, k _ _ (po1' o rfl)⟩
theorem pxc_notInS (hu : X.A.units + 9 < cLine) (ha : PX X ρ G a d1) (hb : PX X ρ G b d2) (hl : SeqOf G d2 l) (p1 : plainD 8 d1 = true) (p2 : l.all (plainD 8) = true) : PXC X ρ G .NotIn a b (.bl (!(l.any fun e => eqD e d1))) :=
  pxc_op (op_notInD hu) ha hb fun H x y Q o hx hy k => by
    obtain ⟨p, vs, h1, h2, h3⟩ := seq_in hl o hy
    exact ⟨p, vs, d1, l, h1, h2, h3, hx.same hid_le, p1, p2, k _ _ (po1' o rfl)⟩
end
end TF
namespace TF
open PySem PySem.Spec L2
open PyProof.Rows hiding St RelV
section
variable {X : Cx} {ρ : Rho} {G : Gs} {e a b c : Expr} {es : List Expr} {d d' d1 d2 d3 k : Dat} {ds l m : List Dat} {pos : Pos} {i j z : Int} {p : Addr} {kvs : List (Dat × Dat)} {D : DE} {rest body : List Stmt}
structure DfA (P : Program) (w : World) (K : PySem.W.Frag) (mg : Str → Option Value) (base : Heap) (f : Addr) (ps : List Str) (k : Nat) (S : SpD) : Prop where
  ex : ∃ fd, FnOk P w K mg base CX0 k f fd ps (liftG K S) ∧ PySem.W.keepIn K (.ref f) = true ∧ Binds K fd ps []
end
end TF
namespace TF
open PySem PySem.Spec L2
open PyProof.Rows hiding St RelV
def tyS : Dat → Option String
  | .non => some "NoneType"
  | .bl _ => some "bool"
  | .int _ => some "int"
  | .str _ => some "str"
  | .fn _ => none
  | .scr _ => some "list"
  | .tup _ => some "tuple"
  | .lst _ => some "list"
def isS (t c : String) : Bool := t == c || (t == "bool" && c == "int")
theorem kit_of {K : PySem.W.Frag} (t c : String) (ht : t ∈ ["NoneType", "bool", "int", "str", "tuple", "list"]) (hc : c ∈ ["bool", "int", "str", "tuple", "list"]) : PySem.W.kitOne K (.type t) (.type c) = some (isS t c) := by
  simp only [List.mem_cons, List.not_mem_nil, or_false] at ht hc
  rcases ht with rfl | rfl | rfl | rfl | rfl | rfl <;> rcases hc with rfl | rfl | rfl | rfl | rfl <;> rfl
section
variable {X : Cx} {ρ : Rho} {G : Gs} {e a b c : Expr} {d : Dat} {pos : Pos}
theorem isi_at {pins : List (Addr × Obj)} {σ : St} {H : Hp} {s : Shared} {A : Around} {E : Value → Shared → Prop} {Q : Value → Shared → Prop} {cl : Value} {q : Bool} {v : V} {u : Value} {t : String} (I : Inv X pins σ H s) (ru : RelV v u) (r : Rep X.K H d v) (ht : tyS d = some t)
    (ek : PySem.W.kitOne X.K (.type t) cl = some q) (h : ∀ tk, Q (.bool q) { s with toks := tk }) : wpAny (model X.prog X.w) A (call (.builtin "isinstance") [u, cl]) Q E s := by
  cases d with
  | fn a => cases ht
  | non => cases ht; rw [Rep] at r; subst r; exact isinst_ok I ru (.non) ek h
  | bl b => cases ht; rw [Rep] at r; subst r; exact isinst_ok I ru (.bl b) ek h
  | int b => cases ht; rw [Rep] at r; subst r; exact isinst_ok I ru (.int b) ek h
  | str b => cases ht; rw [Rep] at r; subst r; exact isinst_ok I ru (.str b) ek h
  | scr ns =>
    cases ht
    rw [Rep] at r
    obtain ⟨a, rfl, hq⟩ := r
    cases ru
    obtain ⟨its, r', pl, hz⟩ := I.list hq
    obtain ⟨o, h1, h2, _⟩ := pl.isList
    exact PySem.W.kia_one PySem.W.kitx_list I.kIn ⟨_, h1, h2⟩ ek (fun z => nomatch z) h
  | tup l =>
    cases ht
    rw [Rep] at r
    obtain ⟨a, vs, rfl, hq, _⟩ := r
    cases ru
    obtain ⟨its, r', pl, hz⟩ := I.tuple hq
    obtain ⟨o, h1, h2, _⟩ := pl
    exact PySem.W.kia_one PySem.W.kitx_tuple I.kIn ⟨_, h1, h2⟩ ek (fun z => nomatch z) h
  | lst l =>
    cases ht
    rw [Rep] at r
    obtain ⟨a, vs, rfl, hq, _⟩ := r
    cases ru
    obtain ⟨its, r', pl, hz⟩ := I.list (SqL.of hq)
    obtain ⟨o, h1, h2, _⟩ := pl.isList
    exact PySem.W.kia_one PySem.W.kitx_list I.kIn ⟨_, h1, h2⟩ ek (fun z => nomatch z) h
theorem call_isi {d : Dat} {t : String} {T : String} (ht : tyS d = some t) (hT : T ∈ ["bool", "int", "str", "tuple", "list"]) : CallR X (.builtin "isinstance") (fun xs H Q => ∃ v, xs = [v, .ty T] ∧ Rep X.K H d v ∧ Q (.bl (isS t T)) H) := by
  intro pins s σ H xs us Q I r h
  obtain ⟨v, rfl, rd, q⟩ := h
  obtain ⟨u, w', rfl, ru, rw'⟩ := vals2 r
  cases (show w' = Value.type T from rw')
  refine isi_at I ru rd ht (kit_of t T ?_ hT) fun tk => ⟨.bl _, H, I.tok _, rfl, q⟩
  cases d <;> simp only [tyS, Option.some.injEq, reduceCtorEq] at ht <;> subst ht <;> decide
theorem px_isi {t : String} {T : Str} {T' : String} {pp p2 : Pos} (hm : X.mg "isinstance" = none) (hT : X.mg T = none) (ha : PX X ρ G a d) (ht : tyS d = some t := by rfl) (hb : bootBuiltins T = some (.type T') := by decide +kernel) (hT' : T' ∈ ["bool", "int", "str", "tuple", "list"] := by decide) (hg : Gl X "isinstance" := by rfl) (hgT : Gl X T := by rfl)
    (hn : T ≠ "__name__" := by decide) (hdb : (T == ("__debug__" : Str)) = false := by decide) (he : starEach [a, .Name T p2] X.env = (false, eval a X.env) :: starEach [.Name T p2] X.env := by rfl) : PX X ρ G (.Call (.Name "isinstance" pp) [a, .Name T p2] [] pos) (.bl (isS t T')) :=
  we_pe (pe_callB (call_isi ht hT') hg hm (by decide +kernel) (pa_cons pe_we (pa_cons (pe_bltn (v := .ty T') hgT hT hb rfl hn hdb) pa_nil) he) (by decide) (by decide) he rfl) fun σ H S => ⟨ρ, G, _, ha, S, fun x H1 ⟨_, _, e1, o1, r1, q1, q1'⟩ => by
    subst q1; subst q1'
    exact ⟨x, rfl, r1.same hid_le, Po.trans e1 (po1' o1 rfl)⟩⟩
end
end TF
namespace TF
open PySem PySem.Spec L2
open PyProof.Rows hiding St RelV
def Kn (G G' : Gs) : Prop := ∀ q o, G q = some o → G' q = some o
theorem kn_put {G : Gs} {p : Addr} {o : OD} (h : G p = none) : Kn G (put G p o) := fun q u e => by
  by_cases hq : q = p
  · subst hq; rw [h] at e; cases e
  · rw [put_ne hq]; exact e
section
variable {X : Cx} {ρ : Rho} {G : Gs} {elt target iter c : Expr} {ifs : List Expr} {scope : Scope} {cpos pos pos' : Pos} {Nc : List Str} {caps : List (Option Nat)} {l : List Dat} {f : Dat → Rho → Option Rho} {D : DE} {rest : List Stmt}
theorem wi_pv {tg it : Expr} {Pv : Nat → List Dat → Gs → Prop} (hi : WI X ρ G tg it fun l' G' => l' = l ∧ G' = G) (h0 : Pv 0 [] G) : WI X ρ G tg it fun l' G' => l' = l ∧ Pv 0 [] G' := fun pins s σ H I S =>
  thn (hi pins s σ H I S) fun v s1 h1 => thn h1 fun itv s2 ⟨it, fp, tn, J, H', e, I', T, st, fk, l', G', e', o', wk, q1, q2⟩ => ⟨it, fp, tn, J, H', e, I', T, st, fk, l', G', e', o', wk, q1, by rw [q2]; exact h0⟩
theorem step_map (g : Dat → Dat) (hz : l.length ≤ 5000)
    (hstep : ∀ C s' H' fp G' d, d ∈ l → Kn G G' → ∃ ρ', f d (pick caps ρ) = some ρ' ∧ PX (compCx X Nc scope C s' H' fp) ρ' G' elt (g d)) :
    ∀ C s' H' fp Dd i d acc G', l[i]? = some d → (G' = G ∧ acc = (l.take i).map g) → G' Dd = none → ∃ ρ', f d (pick caps ρ) = some ρ' ∧
      WTail (compCx X Nc scope C s' H' fp) ρ' (put G' Dd (.lst acc)) (emitT elt (compCx X Nc scope C s' H' fp).env (.ref Dd)) fun G'' => ∃ acc' G4, acc'.length ≤ acc.length + 1 ∧ G4 Dd = none ∧ G'' = put G4 Dd (.lst acc') ∧ (G4 = G ∧ acc' = (l.take (i + 1)).map g) := by
  rintro C s' H' fp Dd i d acc G' hd ⟨rfl, rfl⟩ hD
  obtain ⟨ρ', h1, h2⟩ := hstep C s' H' fp (put G' Dd (.lst ((l.take i).map g))) d (List.mem_of_getElem? hd) (kn_put hD)
  refine ⟨ρ', h1, wtail_emit rfl put_same ?_ (PX.we h2 ⟨put_same, _, G', ?_, hD, put_put, rfl, ?_⟩)⟩
  · have : ((l.take i).map g).length ≤ l.length := by rw [List.length_map, List.length_take]; omega
    exact Nat.lt_of_le_of_lt (Nat.le_trans this hz) (by decide)
  · simp
  · rw [List.take_add_one, hd]
    simp
theorem step_fil (p : Dat → Bool) (g : Dat → Dat) (hz : l.length ≤ 5000)
    (hstep : ∀ C s' H' fp G' d, d ∈ l → Kn G G' → ∃ ρ', f d (pick caps ρ) = some ρ' ∧ PXT (compCx X Nc scope C s' H' fp) ρ' G' c (p d) ∧ (p d = true → PX (compCx X Nc scope C s' H' fp) ρ' G' elt (g d))) :
    ∀ C s' H' fp Dd i d acc G', l[i]? = some d → (G' = G ∧ acc = ((l.take i).filter p).map g) → G' Dd = none → ∃ ρ', f d (pick caps ρ) = some ρ' ∧
      WTail (compCx X Nc scope C s' H' fp) ρ' (put G' Dd (.lst acc)) (testT c elt (compCx X Nc scope C s' H' fp).env (.ref Dd)) fun G'' => ∃ acc' G4, acc'.length ≤ acc.length + 1 ∧ G4 Dd = none ∧ G'' = put G4 Dd (.lst acc') ∧ (G4 = G ∧ acc' = ((l.take (i + 1)).filter p).map g) := by
  rintro C s' H' fp Dd i d acc G' hd ⟨rfl, rfl⟩ hD
  obtain ⟨ρ', h1, h2, h3⟩ := hstep C s' H' fp (put G' Dd (.lst (((l.take i).filter p).map g))) d (List.mem_of_getElem? hd) (kn_put hD)
  have et : (l.take (i + 1)).filter p = (l.take i).filter p ++ (if p d = true then [d] else []) := by
    rw [List.take_add_one, hd, List.filter_append]
    simp only [Option.toList_some, List.filter_cons, List.filter_nil]
  refine ⟨ρ', h1, wtail_test rfl (pxt_mono h2 ⟨fun hp => ?_, fun hp => ?_⟩)⟩
  · refine wtail_emit rfl put_same ?_ (PX.we (h3 hp) ⟨put_same, _, G', ?_, hD, put_put, rfl, ?_⟩)
    · have : (((l.take i).filter p).map g).length ≤ l.length := by
        rw [List.length_map]
        exact Nat.le_trans (List.length_filter_le _ _) (by rw [List.length_take]; omega)
      exact Nat.lt_of_le_of_lt (Nat.le_trans this hz) (by decide)
    · simp
    · rw [et, if_pos hp]; simp
  · refine ⟨_, G', ?_, hD, rfl, rfl, ?_⟩
    · simp
    · rw [et, if_neg (by rw [hp]; decide)]; simp
theorem px_compM (g : Dat → Dat) (Sc : CompSc X scope Nc caps) (hcalm : X.calm = true) (hi : WI X ρ G target iter fun l' G' => l' = l ∧ G' = G)
    (hg : ∀ C s' H' fp, PGD (compCx X Nc scope C s' H' fp) target f) (hle : ∀ d ρ', f d (pick caps ρ) = some ρ' → ρ'.length = (pick caps ρ).length ∧ ∀ (j : Nat) e, (pick caps ρ)[j]? = some (some e) → ρ'[j]? = some (some e)) (hz : l.length ≤ 5000)
    (hstep : ∀ C s' H' fp G' d, d ∈ l → Kn G G' → ∃ ρ', f d (pick caps ρ) = some ρ' ∧ PX (compCx X Nc scope C s' H' fp) ρ' G' elt (g d)) (hfs : ∀ x, foldedSetIterable iter X.env x = pure x := by intro _; rfl) :
    PX X ρ G (.ListComp elt [⟨target, iter, [], 0⟩] scope cpos) (.lst (l.map g)) :=
  we_comp (Pv := fun i acc G' => G' = G ∧ acc = (l.take i).map g) (turnIs_0 elt target iter scope cpos) Sc hcalm (wi_pv (Pv := fun i acc G' => G' = G ∧ acc = (l.take i).map g) hi ⟨rfl, by simp⟩) hg hle (Nat.le_trans hz (by decide)) (step_map g hz hstep) (by
    rintro acc G' ⟨rfl, rfl⟩
    rw [List.take_length]
    exact ⟨rfl, rfl⟩) hfs
theorem px_compF (p : Dat → Bool) (g : Dat → Dat) (Sc : CompSc X scope Nc caps) (hcalm : X.calm = true) (hi : WI X ρ G target iter fun l' G' => l' = l ∧ G' = G)
    (hg : ∀ C s' H' fp, PGD (compCx X Nc scope C s' H' fp) target f) (hle : ∀ d ρ', f d (pick caps ρ) = some ρ' → ρ'.length = (pick caps ρ).length ∧ ∀ (j : Nat) e, (pick caps ρ)[j]? = some (some e) → ρ'[j]? = some (some e)) (hz : l.length ≤ 5000)
    (hstep : ∀ C s' H' fp G' d, d ∈ l → Kn G G' → ∃ ρ', f d (pick caps ρ) = some ρ' ∧ PXT (compCx X Nc scope C s' H' fp) ρ' G' c (p d) ∧ (p d = true → PX (compCx X Nc scope C s' H' fp) ρ' G' elt (g d))) (hfs : ∀ x, foldedSetIterable iter X.env x = pure x := by intro _; rfl) :
    PX X ρ G (.ListComp elt [⟨target, iter, [c], 0⟩] scope cpos) (.lst ((l.filter p).map g)) :=
  we_comp (Pv := fun i acc G' => G' = G ∧ acc = ((l.take i).filter p).map g) (turnIs_1 elt target iter c scope cpos) Sc hcalm (wi_pv (Pv := fun i acc G' => G' = G ∧ acc = ((l.take i).filter p).map g) hi ⟨rfl, by simp⟩) hg hle (Nat.le_trans hz (by decide)) (step_fil p g hz hstep) (by
    rintro acc G' ⟨rfl, rfl⟩
    rw [List.take_length]
    exact ⟨rfl, rfl⟩) hfs
theorem wss_setM (n : Nat) {x : Str} (g : Dat → Dat) (hN : X.N.Nodup) (Sc : CompSc X scope Nc caps) (hcalm : X.calm = true) (hi : WI X ρ G target iter fun l' G' => l' = l ∧ G' = G)
    (hg : ∀ C s' H' fp, PGD (compCx X Nc scope C s' H' fp) target f) (hle : ∀ d ρ', f d (pick caps ρ) = some ρ' → ρ'.length = (pick caps ρ).length ∧ ∀ (j : Nat) e, (pick caps ρ)[j]? = some (some e) → ρ'[j]? = some (some e)) (hz : l.length ≤ 5000)
    (hstep : ∀ C s' H' fp G' d, d ∈ l → Kn G G' → ∃ ρ', f d (pick caps ρ) = some ρ' ∧ PX (compCx X Nc scope C s' H' fp) ρ' G' elt (g d))
    (q : WSs X (ρ.set n (some (.lst (l.map g)))) G rest D) (hn : X.N[n]? = some x := by rfl) (hx : X.env.kindOf x = some .local := by rfl) (hsw : swapsWith (.ListComp elt [⟨target, iter, [], 0⟩] scope cpos) (some (.Name x pos')) pos.line X.env = pure true := by rfl)
    (hfs : ∀ x, foldedSetIterable iter X.env x = pure x := by intro _; rfl) : WSs X ρ G (.Assign [.Name x pos'] (.ListComp elt [⟨target, iter, [], 0⟩] scope cpos) pos :: rest) D :=
  wss_setComp n (fun i acc G' => G' = G ∧ acc = (l.take i).map g) hN (turnIs_0 elt target iter scope cpos) Sc hcalm (wi_pv (Pv := fun i acc G' => G' = G ∧ acc = (l.take i).map g) hi ⟨rfl, by simp⟩) hg hle (Nat.le_trans hz (by decide)) (step_map g hz hstep) (by
    rintro acc G' ⟨rfl, rfl⟩
    rw [List.take_length]
    exact q) hn hx hsw hfs
theorem wss_setF (n : Nat) {x : Str} (p : Dat → Bool) (g : Dat → Dat) (hN : X.N.Nodup) (Sc : CompSc X scope Nc caps) (hcalm : X.calm = true) (hi : WI X ρ G target iter fun l' G' => l' = l ∧ G' = G)
    (hg : ∀ C s' H' fp, PGD (compCx X Nc scope C s' H' fp) target f) (hle : ∀ d ρ', f d (pick caps ρ) = some ρ' → ρ'.length = (pick caps ρ).length ∧ ∀ (j : Nat) e, (pick caps ρ)[j]? = some (some e) → ρ'[j]? = some (some e)) (hz : l.length ≤ 5000)
    (hstep : ∀ C s' H' fp G' d, d ∈ l → Kn G G' → ∃ ρ', f d (pick caps ρ) = some ρ' ∧ PXT (compCx X Nc scope C s' H' fp) ρ' G' c (p d) ∧ (p d = true → PX (compCx X Nc scope C s' H' fp) ρ' G' elt (g d)))
    (q : WSs X (ρ.set n (some (.lst ((l.filter p).map g)))) G rest D) (hn : X.N[n]? = some x := by rfl) (hx : X.env.kindOf x = some .local := by rfl) (hsw : swapsWith (.ListComp elt [⟨target, iter, [c], 0⟩] scope cpos) (some (.Name x pos')) pos.line X.env = pure true := by rfl)
    (hfs : ∀ x, foldedSetIterable iter X.env x = pure x := by intro _; rfl) : WSs X ρ G (.Assign [.Name x pos'] (.ListComp elt [⟨target, iter, [c], 0⟩] scope cpos) pos :: rest) D :=
  wss_setComp n (fun i acc G' => G' = G ∧ acc = ((l.take i).filter p).map g) hN (turnIs_1 elt target iter c scope cpos) Sc hcalm (wi_pv (Pv := fun i acc G' => G' = G ∧ acc = ((l.take i).filter p).map g) hi ⟨rfl, by simp⟩) hg hle (Nat.le_trans hz (by decide)) (step_fil p g hz hstep) (by
    rintro acc G' ⟨rfl, rfl⟩
    rw [List.take_length]
    exact q) hn hx hsw hfs
end
end TF
namespace TF
open PySem PySem.Spec L2
open PyProof.Rows hiding St RelV
def sqLt (p q : Sq) : Prop := p.1 < q.1 ∨ (p.1 = q.1 ∧ p.2 < q.2)
instance (p q : Sq) : Decidable (sqLt p q) := by unfold sqLt; infer_instance
theorem sqLt_irrefl (p : Sq) : ¬ sqLt p p := by unfold sqLt; omega
theorem sqLt_trans {p q r : Sq} (h : sqLt p q) (h' : sqLt q r) : sqLt p r := by unfold sqLt at *; omega
theorem sqLt_tri (p q : Sq) : sqLt p q ∨ p = q ∨ sqLt q p := by
  obtain ⟨a, b⟩ := p
  obtain ⟨c, d⟩ := q
  unfold sqLt
  simp only [Prod.mk.injEq]
  omega
structure Good (F : List Sq) : Prop where
  ne : F ≠ []
  up : F.Pairwise sqLt
  inn : ∀ p ∈ F, 0 ≤ p.1 ∧ p.1 ≤ 7 ∧ 0 ≤ p.2 ∧ p.2 ≤ 7
  len : F.length ≤ 24
theorem Good.nodup {F : List Sq} (h : Good F) : F.Nodup := h.up.imp fun {a b} hab e => by subst e; exact sqLt_irrefl _ hab
def rect (r w d e : Nat) : List Sq := (List.range r).flatMap fun i => (List.range w).map fun j => (((d + i : Nat) : Int), ((e + j : Nat) : Int))
theorem rect_len (r w d e : Nat) : (rect r w d e).length = r * w := by
  unfold rect
  induction r with
  | zero => simp
  | succ r ih => rw [List.range_succ, List.flatMap_append, List.length_append, ih]; simp [Nat.succ_mul]
theorem mem_rect {r w d e : Nat} {p : Sq} : p ∈ rect r w d e ↔ ∃ i j : Nat, i < r ∧ j < w ∧ p = (((d + i : Nat) : Int), ((e + j : Nat) : Int)) := by
  unfold rect
  simp only [List.mem_flatMap, List.mem_map, List.mem_range]
  constructor
  · rintro ⟨i, hi, j, hj, rfl⟩; exact ⟨i, j, hi, hj, rfl⟩
  · rintro ⟨i, j, hi, hj, rfl⟩; exact ⟨i, hi, j, hj, rfl⟩
theorem rect_succ (i w d e : Nat) : rect (i + 1) w d e = rect i w d e ++ (List.range w).map fun j => (((d + i : Nat) : Int), ((e + j : Nat) : Int)) := by
  unfold rect
  rw [List.range_succ, List.flatMap_append]
  simp
theorem rect_up (r w d e : Nat) : (rect r w d e).Pairwise sqLt := by
  induction r with
  | zero => exact List.Pairwise.nil
  | succ r ih =>
    rw [rect_succ, List.pairwise_append]
    refine ⟨ih, ?_, fun p hp q hq => ?_⟩
    · rw [List.pairwise_map]
      refine List.Pairwise.imp (fun {a b} h => ?_) List.pairwise_lt_range
      exact .inr ⟨rfl, by show ((e + a : Nat) : Int) < ((e + b : Nat) : Int); omega⟩
    · obtain ⟨i, j, hi, hj, rfl⟩ := mem_rect.mp hp
      obtain ⟨j', _, rfl⟩ := List.mem_map.mp hq
      exact .inl (by show ((d + i : Nat) : Int) < ((d + r : Nat) : Int); omega)
theorem good_sub {r w d e : Nat} (h1 : r * w ≤ 24) (h2 : d + r ≤ 8) (h3 : e + w ≤ 8) {F : List Sq} (hs : F.Sublist (rect r w d e)) (hne : F ≠ []) : Good F := by
  refine ⟨hne, (rect_up r w d e).sublist hs, fun p hp => ?_, ?_⟩
  · obtain ⟨i, j, hi, hj, rfl⟩ := mem_rect.mp (hs.subset hp)
    show 0 ≤ ((d + i : Nat) : Int) ∧ ((d + i : Nat) : Int) ≤ 7 ∧ 0 ≤ ((e + j : Nat) : Int) ∧ ((e + j : Nat) : Int) ≤ 7
    omega
  · exact Nat.le_trans hs.length_le (by rw [rect_len]; exact h1)
def ShapeOk (r w : Nat) : Prop := (1 ≤ r ∧ r ≤ 4 ∧ 1 ≤ w ∧ w ≤ 5) ∨ (r = 2 ∧ w = 12) ∨ (r = 3 ∧ w = 8) ∨ (r = 8 ∧ w = 3) ∨ (r = 6 ∧ w = 4)
theorem shape_mul {r w : Nat} (h : ShapeOk r w) : r * min w 8 ≤ 24 ∧ 0 < r * min w 8 := by
  rcases h with ⟨h1, h2, h3, h4⟩ | ⟨rfl, rfl⟩ | ⟨rfl, rfl⟩ | ⟨rfl, rfl⟩ | ⟨rfl, rfl⟩
  · have : min w 8 = w := by omega
    rw [this]
    exact ⟨Nat.le_trans (Nat.mul_le_mul h2 h4) (by decide), Nat.mul_pos h1 h3⟩
  all_goals decide
def mixI (c p m : Int) : Int := c * 48271 % p % m
theorem mix_nat (c p : Int) (m : Nat) (hm : 0 < m) : ∃ r : Nat, r < m ∧ mixI c p (m : Int) = (r : Int) := by
  refine ⟨(mixI c p m).toNat, ?_, ?_⟩
  · have := Int.emod_lt_of_pos (c * 48271 % p) (show (0 : Int) < m by omega)
    have := Int.emod_nonneg (c * 48271 % p) (show (m : Int) ≠ 0 by omega)
    unfold mixI; omega
  · have := Int.emod_nonneg (c * 48271 % p) (show (m : Int) ≠ 0 by omega)
    unfold mixI; omega
theorem fil_sq (L : List Sq) (p : Dat → Bool) : ((L.map sq).filter p).map id = (L.filter fun q => p (sq q)).map sq := by
  rw [List.map_id, List.filter_map]
  rfl
theorem sz {n : Nat} (h : n ≤ 5000) : n ≤ sizeLine := Nat.le_trans h (by decide)
theorem sz1 {n : Nat} (h : n ≤ 5000) : n < sizeLine := Nat.lt_of_le_of_lt h (by decide)
theorem rangeD_len (i : Int) (n : Nat) : (rangeD i n).length = n := by simp [rangeD]
theorem rangeD_get {lo : Int} {n i : Nat} {d : Dat} (h : (rangeD lo n)[i]? = some d) : i < n ∧ d = .int (lo + (i : Nat)) := by
  have hlt : i < n := by
    have := (List.getElem?_eq_some_iff.mp h).1
    simpa [rangeD] using this
  have : (rangeD lo n)[i]? = some (.int (lo + i)) := by simp [rangeD, hlt]
  rw [this] at h; cases h; exact ⟨hlt, rfl⟩
theorem rangeD_mem {lo : Int} {n : Nat} {d : Dat} (h : d ∈ rangeD lo n) : ∃ i : Nat, i < n ∧ d = .int (lo + (i : Nat)) := by
  obtain ⟨i, hi⟩ := List.mem_iff_getElem?.mp h
  exact ⟨i, rangeD_get hi⟩
def spCell : SpD := fun ds G R => ∃ (ns : List Int) (k : Nat), ds = [.scr ns, .int k] ∧ R (.int (cellN ns k)) G
def spMix : SpD := fun ds G R => ∃ (c p m : Int), ds = [.int c, .int p, .int m] ∧ 0 < p ∧ 0 < m ∧ R (.int (mixI c p m)) G
def spFloor : SpD := fun ds G R => ∃ (ns : List Int) (k : Nat), ds = [.scr ns, .int k] ∧ ∀ F, Good F → R (fl F) G
end TF
namespace TF
theorem nodup_le {α : Type} [DecidableEq α] : ∀ {l m : List α}, l.Nodup → (∀ x ∈ l, x ∈ m) → l.length ≤ m.length
  | [], _, _, _ => Nat.zero_le _
  | a :: r, m, hn, hs => by
    obtain ⟨h1, h2⟩ := List.nodup_cons.mp hn
    have ha := hs a (List.mem_cons_self ..)
    have : r.length ≤ (m.erase a).length := nodup_le h2 fun x hx => by
      have hne : x ≠ a := by rintro rfl; exact h1 hx
      exact (List.mem_erase_of_ne hne).mpr (hs x (List.mem_cons_of_mem _ hx))
    rw [List.length_erase_of_mem ha] at this
    have hp : 0 < m.length := List.length_pos_of_mem ha
    rw [List.length_cons]; omega
theorem nodup_len {α : Type} [DecidableEq α] {l m : List α} (h1 : l.Nodup) (h2 : m.Nodup) (h : ∀ x, x ∈ l ↔ x ∈ m) : l.length = m.length :=
  Nat.le_antisymm (nodup_le h1 fun x hx => (h x).mp hx) (nodup_le h2 fun x hx => (h x).mpr hx)
inductive Con (R : Sq → Sq → Prop) (g : Sq → Prop) (s : Sq) : Sq → Prop
  | base : Con R g s s
  | step {x y : Sq} : Con R g s x → R x y → g y → Con R g s y
section
variable {R R' : Sq → Sq → Prop} {g g' : Sq → Prop} {s x y : Sq}
end
structure RL (R : Sq → Sq → Prop) (g : Sq → Prop) (s : Sq) (L : List Sq) : Prop where
  nd : L.Nodup
  iff : ∀ x, x ∈ L ↔ Con R g s x
open Classical in
noncomputable def card (R : Sq → Sq → Prop) (g : Sq → Prop) (s : Sq) : Nat := if h : ∃ L, RL R g s L then (Classical.choose h).length else 0
def nbM (q : Sq) : List Sq := [(q.1 - 1, q.2), (q.1, q.2 - 1), (q.1, q.2 + 1), (q.1 + 1, q.2)]
def cnM (q : Sq) : List Sq := [(q.1 - 1, q.2 - 1), (q.1 - 1, q.2 + 1), (q.1 + 1, q.2 - 1), (q.1 + 1, q.2 + 1)]
def aaM (q : Sq) : List Sq := nbM q ++ cnM q
def n9 (q : Sq) : List Sq := (List.range 9).map fun k => (q.1 + ((k / 3 : Nat) : Int) - 1, q.2 + ((k % 3 : Nat) : Int) - 1)
structure BB (F : List Sq) (r0 r1 c0 c1 : Int) : Prop where
  r0m : r0 ∈ F.map (·.1)
  r0l : ∀ a ∈ F.map (·.1), r0 ≤ a
  r1m : r1 ∈ F.map (·.1)
  r1l : ∀ a ∈ F.map (·.1), a ≤ r1
  c0m : c0 ∈ F.map (·.2)
  c0l : ∀ a ∈ F.map (·.2), c0 ≤ a
  c1m : c1 ∈ F.map (·.2)
  c1l : ∀ a ∈ F.map (·.2), a ≤ c1
def boxL (a b : Int) (m n : Nat) : List Sq := (List.range m).flatMap fun i => (List.range n).map fun j => (a + (i : Nat), b + (j : Nat))
def bareL (F : List Sq) (r0 r1 c0 c1 : Int) : List Sq := (boxL (r0 - 1) (c0 - 1) (r1 + 2 - (r0 - 1)).toNat (c1 + 2 - (c0 - 1)).toNat).filter fun q => !F.contains q
section
variable {F : List Sq} {r0 r1 c0 c1 : Int}
def g1 (F : List Sq) (r0 r1 c0 c1 : Int) (p : Sq) : Prop := (r0 - 1 ≤ p.1 ∧ p.1 ≤ r1 + 1 ∧ c0 - 1 ≤ p.2 ∧ p.2 ≤ c1 + 1) ∧ p ∉ F
def g2 (F : List Sq) (p : Sq) : Prop := (-1 ≤ p.1 ∧ p.1 ≤ 8 ∧ -1 ≤ p.2 ∧ p.2 ≤ 8) ∧ p ∉ F
theorem BB.le (b : BB F r0 r1 c0 c1) : r0 ≤ r1 ∧ c0 ≤ c1 := ⟨b.r0l _ b.r1m, b.c0l _ b.c1m⟩
end
def meetB (F : List Sq) (s o : Sq) : Bool := F.contains o && (!F.contains (s.1, o.2) && !F.contains (o.1, s.2))
def cornB (F : List Sq) : Bool := F.any fun s => (cnM s).any fun o => meetB F s o
end TF
namespace TF
open Classical in
abbrev nbR : Sq → Sq → Prop := fun p q => q ∈ nbM p
abbrev aaR : Sq → Sq → Prop := fun p q => q ∈ aaM p
abbrev n9R : Sq → Sq → Prop := fun p q => q ∈ n9 p
noncomputable def hangB (F : List Sq) : Bool := (((card nbR (· ∈ F) (F.headD (0, 0)) : Nat) : Int) == ((F.length : Nat) : Int))
noncomputable def holeB (F : List Sq) (r0 r1 c0 c1 : Int) : Bool := decide (((card aaR (· ∈ bareL F r0 r1 c0 c1) (r0 - 1, c0 - 1) : Nat) : Int) < (((bareL F r0 r1 c0 c1).length : Nat) : Int))
noncomputable def noHoleB (F : List Sq) : Bool := (((card n9R (g2 F) (-1, -1) : Nat) : Int) == 100 - ((F.length : Nat) : Int))
end TF
namespace TF
open PySem PySem.Spec L2
open PyProof.Rows hiding St RelV
theorem key_sq (q : Sq) : keyD 6 (sq q) = true := rfl
def kvT (q : Sq) : Dat × Dat := (sq q, .bl true)
theorem lookD_sq (L : List Sq) (v : Sq → Dat) (y : Sq) : lookD (L.map fun q => (sq q, v q)) (sq y) = if y ∈ L then some (v y) else none := by
  induction L with
  | nil => rfl
  | cons a r ih =>
    unfold lookD at ih ⊢
    rw [List.map_cons, List.find?_cons]
    by_cases h : a = y
    · subst h
      simp
    · have hne : sq a ≠ sq y := fun e => h (sq_inj e)
      rw [decide_eq_false hne]
      simp only
      rw [ih]
      have : (y ∈ a :: r) ↔ y ∈ r := by simp [Ne.symm h]
      simp only [this]
theorem look_kv (L : List Sq) (y : Sq) : (lookD (L.map kvT) (sq y)).isSome = L.contains y := by
  have := lookD_sq L (fun _ => .bl true) y
  have e : (L.map fun q => (sq q, Dat.bl true)) = L.map kvT := rfl
  rw [e] at this
  rw [this]
  by_cases h : y ∈ L <;> simp [h]
theorem put_kv {L : List Sq} {y : Sq} (h : y ∉ L) : putD (L.map kvT) (sq y) (.bl true) = (L ++ [y]).map kvT := by
  rw [putD_new, List.map_append]
  · rfl
  · have := look_kv L y
    cases e : lookD (L.map kvT) (sq y) with
    | none => rfl
    | some d => rw [e] at this; simp [h] at this
noncomputable def plainP (F : List Sq) : Bool := hangB F && (noHoleB F && !cornB F)
theorem plain_sqD (q : Sq) : plainD 8 (sq q) = true := plain_sq q 7
theorem plain_sqsD (l : List Sq) : (l.map sq).all (plainD 8) = true := plain_sqs l 7
end TF
namespace TF
open PySem PySem.Spec L2
open PyProof.Rows hiding St RelV
theorem nb_nodup (q : Sq) : (nbM q).Nodup := by
  obtain ⟨a, b⟩ := q
  simp only [nbM, List.nodup_cons, List.mem_cons, List.not_mem_nil, or_false, Prod.mk.injEq, List.nodup_nil, and_true, not_false_eq_true]
  omega
def spNear : SpD := fun ds G R => ∃ (F : List Sq) (q : Sq), ds = [fl F, sq q] ∧ R (.lst (((nbM q).filter F.contains).map sq)) G
def spTrue : SpD := fun ds G R => ∃ (ns : List Int), ds = [.scr ns] ∧ R (.bl true) G
end TF
namespace TS
open PySem PyProof.Rows
variable {prog : Program} {w : World} {A : Around} {E : Value → Shared → Prop} {s : Shared} {a₀ : Array Keyed} {r : Keyed → Nat} {k0 : SortKind}
def CmpOk (prog : Program) (w : World) (A : Around) (s : Shared) (a₀ : Array Keyed) (r : Keyed → Nat) (k0 : SortKind) : Prop :=
  ∀ x y, x ∈ a₀.toList → y ∈ a₀.toList → ∀ (E : Value → Shared → Prop) (Q : Bool → Shared → Prop), Q (decide (r x < r y)) s → wpAny (model prog w) A (keyLt' k0 x.1 y.1) Q E s
structure SB (a₀ : Array Keyed) (k0 : SortKind) (st : SortSt) : Prop where
  perm : (arrOf st).Perm a₀
  kind : kindOf st = k0
  failed : failedOf st = none
theorem SB.size {st : SortSt} (h : SB a₀ k0 st) : (arrOf st).size = a₀.size := h.perm.size_eq
theorem SB.mem {st : SortSt} (h : SB a₀ k0 st) {p : Keyed} (hp : p ∈ (arrOf st).toList) : p ∈ a₀.toList := (Array.perm_iff_toList_perm.mp h.perm).mem_iff.mp hp
theorem SB.memAt {st : SortSt} (h : SB a₀ k0 st) {i : Nat} {p : Keyed} (hp : (arrOf st)[i]? = some p) : p ∈ a₀.toList := h.mem (by
  have := Array.mem_of_getElem? hp
  exact Array.mem_toList_iff.mpr this)
theorem SB.setArr {st : SortSt} (h : SB a₀ k0 st) {xs : Array Keyed} (hp : xs.Perm (arrOf st)) : SB a₀ k0 (setArr st xs) := ⟨hp.trans h.perm, h.kind, h.failed⟩
def Rk (r : Keyed → Nat) (xs : Array Keyed) (i : Nat) : Nat := match xs[i]? with
  | some p => r p
  | none => 0
theorem Rk_eq {xs : Array Keyed} {i : Nat} {p : Keyed} (h : xs[i]? = some p) : Rk r xs i = r p := by unfold Rk; rw [h]
theorem Rk_congr {xs ys : Array Keyed} {i j : Nat} (h : xs[i]? = ys[j]?) : Rk r xs i = Rk r ys j := by unfold Rk; rw [h]
theorem Rk_mirror {xs : Array Keyed} {i j : Nat} (hj : j ≤ xs.size) (k : Nat) : Rk r (mirror xs i j ((j - i) / 2)) k = if i ≤ k ∧ k < j then Rk r xs (i + j - 1 - k) else Rk r xs k := by
  have e := getElem?_mirror_all (i := i) hj k
  by_cases h : i ≤ k ∧ k < j
  · rw [if_pos h] at e ⊢; exact Rk_congr e
  · rw [if_neg h] at e ⊢; exact Rk_congr e
theorem mirror_lo {xs : Array Keyed} {i j : Nat} (hj : j ≤ xs.size) {k : Nat} (hk : k < i) : (mirror xs i j ((j - i) / 2))[k]? = xs[k]? := by
  rw [getElem?_mirror_all (i := i) hj k, if_neg (by omega)]
theorem wpS_lt (hc : CmpOk prog w A s a₀ r k0) {st : SortSt} (hB : SB a₀ k0 st) {x y : Keyed} (hx : x ∈ a₀.toList) (hy : y ∈ a₀.toList) {Q : Option Bool → SortSt → Prop} (h : Q (some (decide (r x < r y))) st) : wpS (model prog w) A E s (lt' x y) Q st := by
  rw [lt'_eq]
  refine wpS_bind (wpS_get ?_)
  rw [hB.kind]
  refine wpS_bind (wpS_lift (wpAny_attempt (hc x y hx hy _ _ ⟨rfl, ?_⟩)))
  exact wpS_pure h
theorem wpS_elem {st : SortSt} {xs : Array Keyed} {i : Nat} {p : Keyed} (hp : xs[i]? = some p) {Q : Keyed → SortSt → Prop} (h : Q p st) : wpS (model prog w) A E s (elem' xs i) Q st := by
  rw [elem'_eq, hp]
  exact wpS_pure h
theorem wpS_ltAt (hc : CmpOk prog w A s a₀ r k0) {st : SortSt} (hB : SB a₀ k0 st) {i j : Nat} (hi : i < a₀.size) (hj : j < a₀.size) {Q : Option Bool → SortSt → Prop} (h : Q (some (decide (Rk r (arrOf st) i < Rk r (arrOf st) j))) st) : wpS (model prog w) A E s (ltAt' i j) Q st := by
  have ei : (arrOf st)[i]? = some ((arrOf st)[i]'(by rw [hB.size]; exact hi)) := getElem?_pos _ i (by rw [hB.size]; exact hi)
  have ej : (arrOf st)[j]? = some ((arrOf st)[j]'(by rw [hB.size]; exact hj)) := getElem?_pos _ j (by rw [hB.size]; exact hj)
  rw [Rk_eq ei, Rk_eq ej] at h
  rw [ltAt'_eq]
  refine wpS_bind (wpS_get ?_)
  refine wpS_bind (wpS_elem ei ?_)
  refine wpS_bind (wpS_elem ej ?_)
  exact wpS_lt hc hB (hB.memAt ei) (hB.memAt ej) h
def countRun' : Nat → Nat → StateT SortSt Sem (Option Nat) := sortPriv% PySem.Builtin.countRun
def binarySort' : Nat → Nat → Nat → StateT SortSt Sem Bool := sortPriv% PySem.Builtin.binarySort
def gallop' : Bool → Keyed → Array Keyed → Nat → Nat → Nat → StateT SortSt Sem (Option Nat) := sortPriv% PySem.Builtin.gallop
def mergeLo' : Array Keyed → Array Keyed → StateT SortSt Sem (Array Keyed) := sortPriv% PySem.Builtin.mergeLo
def mergeHi' : Array Keyed → Array Keyed → StateT SortSt Sem (Array Keyed) := sortPriv% PySem.Builtin.mergeHi
structure Kp (a₀ : Array Keyed) (k0 : SortKind) (lo : Nat) (st st' : SortSt) : Prop where
  base : SB a₀ k0 st'
  pend : pendingOf st' = pendingOf st
  low : ∀ k, k < lo → (arrOf st')[k]? = (arrOf st)[k]?
theorem Kp.refl {st : SortSt} {lo : Nat} (h : SB a₀ k0 st) : Kp a₀ k0 lo st st := ⟨h, rfl, fun _ _ => rfl⟩
theorem Kp.trans {st st1 st2 : SortSt} {lo : Nat} (h : Kp a₀ k0 lo st st1) (h' : Kp a₀ k0 lo st1 st2) : Kp a₀ k0 lo st st2 := ⟨h'.base, h'.pend.trans h.pend, fun k hk => (h'.low k hk).trans (h.low k hk)⟩
theorem Kp.mirror {st : SortSt} {lo i j : Nat} (h : SB a₀ k0 st) (hi : lo ≤ i) (hj : j ≤ a₀.size) : Kp a₀ k0 lo st (PyProof.Rows.setArr st (mirror (arrOf st) i j ((j - i) / 2))) :=
  ⟨h.setArr (mirror_perm _ _ _ _), rfl, fun k hk => mirror_lo (by rw [h.size]; exact hj) (by omega)⟩
def Up (r : Keyed → Nat) (xs : Array Keyed) (a b : Nat) : Prop := ∀ i j, a ≤ i → i ≤ j → j < b → Rk r xs i ≤ Rk r xs j
def Dn (r : Keyed → Nat) (xs : Array Keyed) (a b : Nat) : Prop := ∀ i j, a ≤ i → i ≤ j → j < b → Rk r xs j ≤ Rk r xs i
theorem up_one (xs : Array Keyed) (a : Nat) : Up r xs a (a + 1) := fun i j h1 h2 h3 => by
  obtain rfl : i = j := by omega
  exact Nat.le_refl _
theorem up_step {xs : Array Keyed} {a b : Nat} (h : Up r xs a b) (hab : a < b) (hl : Rk r xs (b - 1) ≤ Rk r xs b) : Up r xs a (b + 1) := fun i j h1 h2 h3 => by
  by_cases hj : j < b
  · exact h i j h1 h2 hj
  · obtain rfl : j = b := by omega
    by_cases hi : i = j
    · subst hi; exact Nat.le_refl _
    · exact Nat.le_trans (h i (j - 1) h1 (by omega) (by omega)) hl
theorem dn_step {xs : Array Keyed} {a b : Nat} (h : Dn r xs a b) (hab : a < b) (hl : Rk r xs b ≤ Rk r xs (b - 1)) : Dn r xs a (b + 1) := fun i j h1 h2 h3 => by
  by_cases hj : j < b
  · exact h i j h1 h2 hj
  · obtain rfl : j = b := by omega
    by_cases hi : i = j
    · subst hi; exact Nat.le_refl _
    · exact Nat.le_trans hl (h i (j - 1) h1 (by omega) (by omega))
theorem split_tail {M : Model} {σ α : Type} {c : Prop} [Decidable c] {m t : StateT σ Sem α} {Q : α → σ → Prop} {st : σ} {P : σ → Prop} (ht : ∀ st1, P st1 → wpS M A E s t Q st1) (h : (∀ st1, P st1 → wpS M A E s t Q st1) → wpS M A E s (if c then m else t) Q st) : wpS M A E s (if c then m else t) Q st := h ht
theorem split_tail2 {M : Model} {σ α : Type} {c : Prop} [Decidable c] {m t : StateT σ Sem α} {Q : α → σ → Prop} {st : σ} {P : σ → Prop} (ht : ∀ st1, P st1 → wpS M A E s t Q st1) (h : (∀ st1, P st1 → wpS M A E s t Q st1) → wpS M A E s (if c then m else t) Q st) : wpS M A E s (if c then m else t) Q st := h ht
theorem wpS_countRun (hc : CmpOk prog w A s a₀ r k0) {st : SortSt} (hB : SB a₀ k0 st) {lo nrem : Nat} (h1 : 1 ≤ nrem) (h2 : lo + nrem ≤ a₀.size) {Q : Option Nat → SortSt → Prop}
    (h : ∀ m st', 1 ≤ m → m ≤ nrem → Kp a₀ k0 lo st st' → Up r (arrOf st') lo (lo + m) → Q (some m) st') : wpS (model prog w) A E s (countRun' lo nrem) Q st := by
  unfold countRun'
  refine wpS_bind (wpS_mono (wpS_forRange (I := fun x c st' => st' = st ∧ c = (none, x) ∧ x ≤ nrem ∧ Up r (arrOf st) lo (lo + x))
    (Q := fun c st' => st' = st ∧ ∃ n, c = (none, n) ∧ 1 ≤ n ∧ n ≤ nrem ∧ Up r (arrOf st) lo (lo + n) ∧ (n = nrem ∨ Rk r (arrOf st) (lo + n) < Rk r (arrOf st) (lo + n - 1))) ?_ ?_ ⟨rfl, rfl, h1, up_one _ _⟩) ?_)
  · rintro x c st' hx1 hx2 ⟨rfl, rfl, hx, hU⟩
    refine wpS_bind (wpS_ltAt hc hB (by omega) (by omega) ?_)
    dsimp only
    by_cases hlt : Rk r (arrOf st') (lo + x) < Rk r (arrOf st') (lo + x - 1)
    · rw [decide_eq_true hlt, if_pos rfl]
      exact wpS_pure ⟨rfl, x, rfl, hx1, hx, hU, .inr hlt⟩
    · rw [decide_eq_false hlt, if_neg (by decide)]
      exact wpS_pure ⟨rfl, rfl, by omega, up_step (b := lo + x) hU (by omega) (by omega)⟩
  · rintro c st' ⟨rfl, rfl, hx, hU⟩
    have e : max 1 nrem = nrem := by omega
    rw [e] at hU ⊢
    exact ⟨rfl, nrem, rfl, h1, Nat.le_refl _, hU, .inl rfl⟩
  rintro c st' ⟨rfl, n, rfl, hn1, hn2, hU, hor⟩
  dsimp only
  by_cases hnn : n = nrem
  · rw [if_pos (by simpa using hnn)]
    exact wpS_pure (h n _ hn1 hn2 (Kp.refl hB) hU)
  rw [if_neg (by simpa using hnn)]
  have hlt := hor.resolve_left hnn
  refine split_tail (P := fun st1 => Kp a₀ k0 lo st' st1 ∧ Dn r (arrOf st1) lo (lo + (n + 1))) ?tail ?rest
  case rest =>
    intro tail
    by_cases hgt : n > 1
    · rw [if_pos hgt]
      refine wpS_bind (wpS_ltAt hc hB (by omega) (by omega) ?_)
      dsimp only
      by_cases hrose : Rk r (arrOf st') lo < Rk r (arrOf st') (lo + n - 1)
      · rw [decide_eq_true hrose, if_pos rfl]
        exact wpS_pure (h n _ hn1 hn2 (Kp.refl hB) hU)
      · rw [decide_eq_false hrose, if_neg (by decide)]
        refine wpS_bind (wpS_modify (tail _ ⟨Kp.mirror hB (Nat.le_refl _) (by omega), ?_⟩))
        have hsz : lo + n ≤ (arrOf st').size := by rw [hB.size]; omega
        have heq : ∀ k, lo ≤ k → k < lo + n → Rk r (arrOf st') k = Rk r (arrOf st') (lo + n - 1) := fun k g1 g2 => by
          have := hU lo k (Nat.le_refl _) g1 g2
          have := hU k (lo + n - 1) g1 (by omega) (by omega)
          omega
        have hR : ∀ k, Rk r (mirror (arrOf st') lo (lo + n) ((lo + n - lo) / 2)) k = Rk r (arrOf st') k := fun k => by
          rw [Rk_mirror hsz]
          split
          · rw [heq _ (by omega) (by omega), heq k (by omega) (by omega)]
          · rfl
        intro i j g1 g2 g3
        show Rk r (mirror (arrOf st') lo (lo + n) ((lo + n - lo) / 2)) j ≤ Rk r (mirror (arrOf st') lo (lo + n) ((lo + n - lo) / 2)) i
        rw [hR, hR]
        by_cases hj : j = lo + n
        · subst hj
          by_cases hi : i = lo + n
          · subst hi; exact Nat.le_refl _
          · rw [heq i g1 (by omega)]; omega
        · rw [heq i g1 (by omega), heq j (by omega) (by omega)]
          exact Nat.le_refl _
    · rw [if_neg hgt]
      obtain rfl : n = 1 := by omega
      refine tail _ ⟨Kp.refl hB, ?_⟩
      intro i j g1 g2 g3
      by_cases hi : i = j
      · subst hi; exact Nat.le_refl _
      · obtain rfl : i = lo := by omega
        obtain rfl : j = i + 1 := by omega
        have : i + 1 - 1 = i := by omega
        rw [this] at hlt
        omega
  case tail =>
    rintro st1 ⟨hK1, hD1⟩
    refine wpS_bind (wpS_lift (wpAny_rule ⟨rfl, ?_⟩))
    refine wpS_bind (wpS_mono (wpS_forRange (I := fun x c st' => ∃ neq, c = (none, x, neq) ∧ x ≤ nrem ∧ Kp a₀ k0 lo st1 st' ∧ Dn r (arrOf st') lo (lo + x) ∧ neq + 1 ≤ x ∧ ∀ i, lo + x - (neq + 1) ≤ i → i < lo + x → Rk r (arrOf st') i = Rk r (arrOf st') (lo + x - 1))
      (Q := fun c st' => ∃ m neq, c = (none, m, neq) ∧ n + 1 ≤ m ∧ m ≤ nrem ∧ Kp a₀ k0 lo st1 st' ∧ Dn r (arrOf st') lo (lo + m) ∧ neq + 1 ≤ m ∧ ∀ i, lo + m - (neq + 1) ≤ i → i < lo + m → Rk r (arrOf st') i = Rk r (arrOf st') (lo + m - 1)) ?_ ?_ ⟨0, rfl, by omega, Kp.refl hK1.base, hD1, by omega, fun i g1 g2 => by congr 1; omega⟩) ?_)
    · rintro x c st2 hx1 hx2 ⟨neq, rfl, hx, hK2, hD2, hq, he⟩
      have hsz : lo + x ≤ (arrOf st2).size := by rw [hK2.base.size]; omega
      dsimp only
      refine wpS_bind (wpS_ltAt hc hK2.base (by omega) (by omega) ?_)
      dsimp only
      by_cases hl2 : Rk r (arrOf st2) (lo + x) < Rk r (arrOf st2) (lo + x - 1)
      · rw [decide_eq_true hl2, if_pos rfl]
        by_cases hneq : neq > 0
        · rw [if_pos hneq]
          refine wpS_bind (wpS_modify (wpS_pure ⟨0, rfl, by omega, hK2.trans (Kp.mirror hK2.base (by omega) (by omega)), ?_, by omega, fun i g1 g2 => by congr 1; omega⟩))
          have hR : ∀ k, Rk r (mirror (arrOf st2) (lo + x - (neq + 1)) (lo + x) ((lo + x - (lo + x - (neq + 1))) / 2)) k = Rk r (arrOf st2) k := fun k => by
            rw [Rk_mirror hsz]
            split
            · rw [he _ (by omega) (by omega), he k (by omega) (by omega)]
            · rfl
          intro i j g1 g2 g3
          show Rk r (mirror (arrOf st2) _ _ _) j ≤ Rk r (mirror (arrOf st2) _ _ _) i
          rw [hR, hR]
          exact dn_step (b := lo + x) hD2 (by omega) (by omega) i j g1 g2 g3
        · rw [if_neg hneq]
          exact wpS_pure ⟨0, rfl, by omega, hK2, dn_step (b := lo + x) hD2 (by omega) (by omega), by omega, fun i g1 g2 => by congr 1; omega⟩
      · rw [decide_eq_false hl2, if_neg (by decide)]
        refine wpS_bind (wpS_ltAt hc hK2.base (by omega) (by omega) ?_)
        dsimp only
        by_cases hl3 : Rk r (arrOf st2) (lo + x - 1) < Rk r (arrOf st2) (lo + x)
        · rw [decide_eq_true hl3, if_pos rfl]
          exact wpS_pure ⟨x, neq, rfl, hx1, hx, hK2, hD2, hq, he⟩
        · rw [decide_eq_false hl3, if_neg (by decide)]
          refine wpS_pure ⟨neq + 1, rfl, by omega, hK2, dn_step (b := lo + x) hD2 (by omega) (by omega), by omega, fun i g1 g2 => ?_⟩
          have e : lo + (x + 1) - 1 = lo + x := by omega
          rw [e]
          by_cases hi : i = lo + x
          · subst hi; rfl
          · rw [he i (by omega) (by omega)]; omega
    · rintro c st2 ⟨neq, rfl, hx, hK2, hD2, hq, he⟩
      have e : max (n + 1) nrem = nrem := by omega
      rw [e] at hD2 hq he ⊢
      exact ⟨nrem, neq, rfl, by omega, Nat.le_refl _, hK2, hD2, hq, he⟩
    rintro c st2 ⟨m, neq, rfl, hm1, hm2, hK2, hD2, hq, he⟩
    dsimp only
    have hsz : lo + m ≤ (arrOf st2).size := by rw [hK2.base.size]; omega
    refine split_tail2 (P := fun st3 => Kp a₀ k0 lo st1 st3 ∧ Dn r (arrOf st3) lo (lo + m)) ?_ ?_
    · rintro st3 ⟨hK3, hD3⟩
      have hsz3 : lo + m ≤ (arrOf st3).size := by rw [hK3.base.size]; omega
      have hK4 := Kp.mirror (lo := lo) (i := lo) (j := lo + m) hK3.base (Nat.le_refl _) (by omega)
      refine wpS_bind (wpS_modify ?_)
      refine wpS_bind (wpS_mono (wpS_forRange (I := fun x c st' => st' = PyProof.Rows.setArr st3 (mirror (arrOf st3) lo (lo + m) ((lo + m - lo) / 2)) ∧ c = (none, x) ∧ x ≤ nrem ∧ Up r (mirror (arrOf st3) lo (lo + m) ((lo + m - lo) / 2)) lo (lo + x))
        (Q := fun c st' => st' = PyProof.Rows.setArr st3 (mirror (arrOf st3) lo (lo + m) ((lo + m - lo) / 2)) ∧ ∃ n, c = (none, n) ∧ 1 ≤ n ∧ n ≤ nrem ∧ Up r (mirror (arrOf st3) lo (lo + m) ((lo + m - lo) / 2)) lo (lo + n)) ?_ ?_ ⟨rfl, rfl, hm2, ?_⟩) ?_)
      · rintro x c st' hx1 hx2 ⟨rfl, rfl, hx, hU⟩
        refine wpS_bind (wpS_ltAt hc hK4.base (by omega) (by omega) ?_)
        dsimp only
        by_cases hlt : Rk r (mirror (arrOf st3) lo (lo + m) ((lo + m - lo) / 2)) (lo + x) < Rk r (mirror (arrOf st3) lo (lo + m) ((lo + m - lo) / 2)) (lo + x - 1)
        · rw [decide_eq_true hlt, if_pos rfl]
          exact wpS_pure ⟨rfl, x, rfl, by omega, hx, hU⟩
        · rw [decide_eq_false hlt, if_neg (by decide)]
          exact wpS_pure ⟨rfl, rfl, by omega, up_step (b := lo + x) hU (by omega) (by omega)⟩
      · rintro c st' ⟨rfl, rfl, hx, hU⟩
        have e : max m nrem = nrem := by omega
        rw [e] at hU ⊢
        exact ⟨rfl, nrem, rfl, h1, Nat.le_refl _, hU⟩
      · intro i j g1 g2 g3
        rw [Rk_mirror hsz3, Rk_mirror hsz3, if_pos (by omega), if_pos (by omega)]
        exact hD3 _ _ (by omega) (by omega) (by omega)
      · rintro c st' ⟨rfl, n', rfl, hn1', hn2', hU'⟩
        exact wpS_pure (h n' _ hn1' hn2' (hK1.trans (hK3.trans hK4)) hU')
    · intro tail
      by_cases hneq : neq > 0
      · rw [if_pos hneq]
        refine wpS_bind (wpS_modify (tail _ ⟨hK2.trans (Kp.mirror hK2.base (by omega) (by omega)), ?_⟩))
        have hR : ∀ k, Rk r (mirror (arrOf st2) (lo + m - (neq + 1)) (lo + m) ((lo + m - (lo + m - (neq + 1))) / 2)) k = Rk r (arrOf st2) k := fun k => by
          rw [Rk_mirror hsz]
          split
          · rw [he _ (by omega) (by omega), he k (by omega) (by omega)]
          · rfl
        intro i j g1 g2 g3
        show Rk r (mirror (arrOf st2) _ _ _) j ≤ Rk r (mirror (arrOf st2) _ _ _) i
        rw [hR, hR]
        exact hD2 i j g1 g2 g3
      · rw [if_neg hneq]
        exact tail _ ⟨hK2, hD2⟩
end TS
namespace TS
open PySem PyProof.Rows
variable {prog : Program} {w : World} {A : Around} {E : Value → Shared → Prop} {s : Shared} {a₀ : Array Keyed} {r : Keyed → Nat} {k0 : SortKind}
theorem Rk_bubble {xs : Array Keyed} {src d : Nat} (hs : src < xs.size) (hd : d ≤ src) (k : Nat) : Rk r (bubble xs src d) k = if k = src - d then Rk r xs src else if src - d < k ∧ k ≤ src then Rk r xs (k - 1) else Rk r xs k := by
  have e := getElem?_bubble hs d hd k
  by_cases h1 : k = src - d
  · rw [if_pos h1] at e ⊢; exact Rk_congr e
  · rw [if_neg h1] at e ⊢
    by_cases h2 : src - d < k ∧ k ≤ src
    · rw [if_pos h2] at e ⊢; exact Rk_congr e
    · rw [if_neg h2] at e ⊢; exact Rk_congr e
theorem wpS_binarySort (hc : CmpOk prog w A s a₀ r k0) {st : SortSt} (hB : SB a₀ k0 st) {lo n ok : Nat} (h2 : lo + n ≤ a₀.size) (hok : ok ≤ n) (hU : Up r (arrOf st) lo (lo + ok)) {Q : Bool → SortSt → Prop}
    (h : ∀ st', Kp a₀ k0 lo st st' → Up r (arrOf st') lo (lo + n) → Q true st') : wpS (model prog w) A E s (binarySort' lo n ok) Q st := by
  unfold binarySort'
  refine wpS_bind (wpS_mono (wpS_forRange (I := fun k c st' => c = (none, ()) ∧ Kp a₀ k0 lo st st' ∧ Up r (arrOf st') lo (lo + min k n))
    (Q := fun c st' => c = (none, ()) ∧ Kp a₀ k0 lo st st' ∧ Up r (arrOf st') lo (lo + n)) ?_ ?_ ⟨rfl, Kp.refl hB, ?_⟩) ?_)
  · rintro k c st1 hk1 hk2 ⟨rfl, hK, hU1⟩
    have e : min k n = k := by omega
    rw [e] at hU1
    have hsz : lo + k < (arrOf st1).size := by rw [hK.base.size]; omega
    dsimp only
    refine wpS_bind (wpS_mono (wpS_forRange (I := fun x c st' => st' = st1 ∧ ∃ l u, c = (none, l, u) ∧ l ≤ u ∧ u ≤ k ∧ u - l ≤ k - x ∧ (∀ i, i < l → Rk r (arrOf st1) (lo + i) ≤ Rk r (arrOf st1) (lo + k)) ∧ ∀ i, u ≤ i → i < k → Rk r (arrOf st1) (lo + k) < Rk r (arrOf st1) (lo + i))
      (Q := fun c st' => st' = st1 ∧ ∃ l u, c = (none, l, u) ∧ l ≤ k ∧ (∀ i, i < l → Rk r (arrOf st1) (lo + i) ≤ Rk r (arrOf st1) (lo + k)) ∧ ∀ i, l ≤ i → i < k → Rk r (arrOf st1) (lo + k) < Rk r (arrOf st1) (lo + i)) ?_ ?_ ⟨rfl, 0, k, rfl, by omega, by omega, by omega, fun i hi => by omega, fun i g1 g2 => by omega⟩) ?_)
    · rintro x c st2 hx1 hx2 ⟨rfl, l, u, rfl, g1, g2, g3, g4, g5⟩
      dsimp only
      by_cases hge : l ≥ u
      · rw [if_pos hge]
        exact wpS_pure ⟨rfl, l, u, rfl, by omega, g4, fun i q1 q2 => g5 i (by omega) q2⟩
      · rw [if_neg hge]
        refine wpS_bind (wpS_ltAt hc hK.base (by omega) (by omega) ?_)
        dsimp only
        by_cases hl : Rk r (arrOf st2) (lo + k) < Rk r (arrOf st2) (lo + (l + u) / 2)
        · rw [decide_eq_true hl, if_pos rfl]
          refine wpS_pure ⟨rfl, l, (l + u) / 2, rfl, by omega, by omega, by omega, g4, fun i q1 q2 => ?_⟩
          have := hU1 (lo + (l + u) / 2) (lo + i) (by omega) (by omega) (by omega)
          omega
        · rw [decide_eq_false hl, if_neg (by decide)]
          refine wpS_pure ⟨rfl, (l + u) / 2 + 1, u, rfl, by omega, by omega, by omega, fun i q1 => ?_, g5⟩
          have := hU1 (lo + i) (lo + (l + u) / 2) (by omega) (by omega) (by omega)
          omega
    · rintro c st2 ⟨rfl, l, u, rfl, g1, g2, g3, g4, g5⟩
      exact ⟨rfl, l, u, rfl, by omega, g4, fun i q1 q2 => g5 i (by omega) q2⟩
    · rintro c st2 ⟨rfl, l, u, rfl, g1, g2, g3⟩
      dsimp only
      refine wpS_bind (wpS_modify (wpS_pure ⟨rfl, hK.trans ⟨hK.base.setArr (bubble_perm _ (lo + k) (lo + k - (lo + l))), rfl, fun q hq => ?_⟩, ?_⟩))
      · show (bubble (arrOf st2) (lo + k) (lo + k - (lo + l)))[q]? = _
        rw [getElem?_bubble hsz _ (by omega), if_neg (by omega), if_neg (by omega)]
      · have e1 : min (k + 1) n = k + 1 := by omega
        rw [e1]
        intro i j q1 q2 q3
        show Rk r (bubble (arrOf st2) (lo + k) (lo + k - (lo + l))) i ≤ Rk r (bubble (arrOf st2) (lo + k) (lo + k - (lo + l))) j
        rw [Rk_bubble hsz (by omega), Rk_bubble hsz (by omega), show lo + k - (lo + k - (lo + l)) = lo + l by omega]
        have a1 : ∀ i, lo ≤ i → i < lo + l → Rk r (arrOf st2) i ≤ Rk r (arrOf st2) (lo + k) := fun i z1 z2 => by
          have := g2 (i - lo) (by omega)
          rwa [show lo + (i - lo) = i by omega] at this
        have a2 : ∀ i, lo + l ≤ i → i < lo + k → Rk r (arrOf st2) (lo + k) < Rk r (arrOf st2) i := fun i z1 z2 => by
          have := g3 (i - lo) (by omega) (by omega)
          rwa [show lo + (i - lo) = i by omega] at this
        repeat' split
        all_goals first
          | (exfalso; omega)
          | exact Nat.le_refl _
          | exact Nat.le_of_lt (a2 _ (by omega) (by omega))
          | exact a1 _ (by omega) (by omega)
          | exact hU1 _ _ (by omega) (by omega) (by omega)
  · rintro c st1 ⟨rfl, hK, hU1⟩
    refine ⟨rfl, hK, ?_⟩
    have e : min (max (max ok 1) n) n = n := by omega
    rwa [e] at hU1
  · intro i j g1 g2 g3
    by_cases h0 : ok = 0
    · obtain rfl : i = j := by omega
      exact Nat.le_refl _
    · exact hU i j g1 g2 (by omega)
  · rintro c st1 ⟨rfl, hK, hU1⟩
    exact wpS_pure (h st1 hK hU1)
def Bf (r : Keyed → Nat) (left : Bool) (key : Keyed) (xs : Array Keyed) (i : Nat) : Bool := if left then decide (Rk r xs i < r key) else !decide (r key < Rk r xs i)
theorem Bf_mono {left : Bool} {key : Keyed} {xs : Array Keyed} {a b i j : Nat} (hU : Up r xs a b) (h1 : a ≤ i) (h2 : i ≤ j) (h3 : j < b) (h : Bf r left key xs j = true) : Bf r left key xs i = true := by
  have := hU i j h1 h2 h3
  unfold Bf at *
  cases left
  · simp at *; omega
  · simp at *; omega
theorem wpS_gallop (hc : CmpOk prog w A s a₀ r k0) {st : SortSt} (hB : SB a₀ k0 st) {left : Bool} {key : Keyed} {xs : Array Keyed} {base n hint : Nat} (hk : key ∈ a₀.toList) (hx : ∀ p ∈ xs.toList, p ∈ a₀.toList) (hsz : base + n ≤ xs.size) (hh : hint < n) (hU : Up r xs base (base + n))
    {Q : Option Nat → SortSt → Prop} (h : ∀ k, k ≤ n → (∀ i, i < k → Bf r left key xs (base + i) = true) → (∀ i, k ≤ i → i < n → Bf r left key xs (base + i) = false) → Q (some k) st) : wpS (model prog w) A E s (gallop' left key xs base n hint) Q st := by
  have beyond : ∀ (i : Nat) (Q : Option Bool → SortSt → Prop), i < n → Q (some (Bf r left key xs (base + i))) st → wpS (model prog w) A E s (do
      let x ← elem' xs (base + i)
      if left then lt' x key else return (← lt' key x).map (!·)) Q st := by
    intro i Q hi hQ
    have e : xs[base + i]? = some (xs[base + i]'(by omega)) := getElem?_pos _ _ (by omega)
    have hm : (xs[base + i]'(by omega)) ∈ a₀.toList := hx _ (Array.mem_toList_iff.mpr (Array.mem_of_getElem? e))
    refine wpS_bind (wpS_elem e ?_)
    unfold Bf at hQ
    rw [Rk_eq e] at hQ
    cases left with
    | true =>
      rw [if_pos rfl] at hQ ⊢
      exact wpS_lt hc hB hm hk hQ
    | false =>
      rw [if_neg (by decide)] at hQ ⊢
      exact wpS_bind (wpS_lt hc hB hk hm (wpS_pure hQ))
  have mono : ∀ i j, i ≤ j → j < n → Bf r left key xs (base + j) = true → Bf r left key xs (base + i) = true := fun i j g1 g2 g3 => Bf_mono hU (by omega) (by omega) (by omega) g3
  have monoF : ∀ i j, i ≤ j → j < n → Bf r left key xs (base + i) = false → Bf r left key xs (base + j) = false := fun i j g1 g2 g3 => by
    cases e : Bf r left key xs (base + j) with
    | false => rfl
    | true => rw [mono i j g1 g2 e] at g3; cases g3
  unfold gallop'
  refine wpS_bind (beyond hint _ hh ?_)
  dsimp only
  cases hr : Bf r left key xs (base + hint) with
  | true =>
    rw [if_pos rfl]
    refine wpS_bind (wpS_mono (wpS_forRange (I := fun x c st' => st' = st ∧ ∃ la o, c = (none, la, o) ∧ la < o ∧ x + 1 ≤ o ∧ la < n - hint ∧ Bf r left key xs (base + (hint + la)) = true)
      (Q := fun c st' => st' = st ∧ ∃ la o, c = (none, la, o) ∧ la < o ∧ la < n - hint ∧ Bf r left key xs (base + (hint + la)) = true ∧ (n - hint ≤ o ∨ Bf r left key xs (base + (hint + o)) = false)) ?_ ?_ ⟨rfl, 0, 1, rfl, by omega, by omega, by omega, hr⟩) ?_)
    · rintro x c st' hx1 hx2 ⟨rfl, la, o, rfl, g1, g2, g3, g4⟩
      dsimp only
      by_cases hge : o ≥ n - hint
      · rw [if_pos hge]
        exact wpS_pure ⟨rfl, la, o, rfl, g1, g3, g4, .inl hge⟩
      · rw [if_neg hge]
        refine wpS_bind (beyond (hint + o) _ (by omega) ?_)
        dsimp only
        cases hb : Bf r left key xs (base + (hint + o)) with
        | true =>
          rw [if_neg (by decide)]
          exact wpS_pure ⟨rfl, o, 2 * o + 1, rfl, by omega, by omega, by omega, hb⟩
        | false =>
          rw [if_pos (by decide)]
          exact wpS_pure ⟨rfl, la, o, rfl, g1, g3, g4, .inr hb⟩
    · rintro c st' ⟨rfl, la, o, rfl, g1, g2, g3, g4⟩
      exact ⟨rfl, la, o, rfl, g1, g3, g4, .inl (by omega)⟩
    rintro c st' ⟨rfl, la, o, rfl, g1, g3, g4, g5⟩
    dsimp only
    have t1 : ∀ i, i < hint + la + 1 → Bf r left key xs (base + i) = true := fun i hi => mono i (hint + la) (by omega) (by omega) g4
    have t2 : ∀ i, hint + min o (n - hint) ≤ i → i < n → Bf r left key xs (base + i) = false := fun i q1 q2 => by
      rcases g5 with z | z
      · omega
      · exact monoF (hint + o) i (by omega) q2 z
    refine wpS_bind (wpS_mono (wpS_forRange (I := fun x c st1 => st1 = st' ∧ ∃ l u, c = (none, l, u) ∧ l ≤ u ∧ u ≤ n ∧ u - l ≤ n - x ∧ (∀ i, i < l → Bf r left key xs (base + i) = true) ∧ ∀ i, u ≤ i → i < n → Bf r left key xs (base + i) = false)
      (Q := fun c st1 => st1 = st' ∧ ∃ l u, c = (none, l, u) ∧ u ≤ n ∧ (∀ i, i < u → Bf r left key xs (base + i) = true) ∧ ∀ i, u ≤ i → i < n → Bf r left key xs (base + i) = false) ?_ ?_ ⟨rfl, _, _, rfl, by omega, by omega, by omega, t1, t2⟩) ?_)
    · rintro x c st1 hx1 hx2 ⟨rfl, l, u, rfl, q1, q2, q3, q4, q5⟩
      dsimp only
      by_cases hge : l ≥ u
      · rw [if_pos hge]
        exact wpS_pure ⟨rfl, l, u, rfl, q2, fun i hi => q4 i (by omega), q5⟩
      · rw [if_neg hge]
        refine wpS_bind (beyond (l + (u - l) / 2) _ (by omega) ?_)
        dsimp only
        cases hb : Bf r left key xs (base + (l + (u - l) / 2)) with
        | true =>
          rw [if_pos rfl]
          exact wpS_pure ⟨rfl, _, _, rfl, by omega, by omega, by omega, fun i hi => mono i (l + (u - l) / 2) (by omega) (by omega) hb, q5⟩
        | false =>
          rw [if_neg (by decide)]
          exact wpS_pure ⟨rfl, _, _, rfl, by omega, by omega, by omega, q4, fun i z1 z2 => monoF (l + (u - l) / 2) i z1 z2 hb⟩
    · rintro c st1 ⟨rfl, l, u, rfl, q1, q2, q3, q4, q5⟩
      exact ⟨rfl, l, u, rfl, q2, fun i hi => q4 i (by omega), q5⟩
    · rintro c st1 ⟨rfl, l, u, rfl, q2, q4, q5⟩
      exact wpS_pure (h u q2 q4 q5)
  | false =>
    rw [if_neg (by decide)]
    refine wpS_bind (wpS_mono (wpS_forRange (I := fun x c st' => st' = st ∧ ∃ la o, c = (none, la, o) ∧ la < o ∧ x + 1 ≤ o ∧ la < hint + 1 ∧ Bf r left key xs (base + (hint - la)) = false)
      (Q := fun c st' => st' = st ∧ ∃ la o, c = (none, la, o) ∧ la < o ∧ la < hint + 1 ∧ Bf r left key xs (base + (hint - la)) = false ∧ (hint + 1 ≤ o ∨ Bf r left key xs (base + (hint - o)) = true)) ?_ ?_ ⟨rfl, 0, 1, rfl, by omega, by omega, by omega, hr⟩) ?_)
    · rintro x c st' hx1 hx2 ⟨rfl, la, o, rfl, g1, g2, g3, g4⟩
      dsimp only
      by_cases hge : o ≥ hint + 1
      · rw [if_pos hge]
        exact wpS_pure ⟨rfl, la, o, rfl, g1, g3, g4, .inl hge⟩
      · rw [if_neg hge]
        refine wpS_bind (beyond (hint - o) _ (by omega) ?_)
        dsimp only
        cases hb : Bf r left key xs (base + (hint - o)) with
        | true =>
          rw [if_pos rfl]
          exact wpS_pure ⟨rfl, la, o, rfl, g1, g3, g4, .inr hb⟩
        | false =>
          rw [if_neg (by decide)]
          exact wpS_pure ⟨rfl, o, 2 * o + 1, rfl, by omega, by omega, by omega, hb⟩
    · rintro c st' ⟨rfl, la, o, rfl, g1, g2, g3, g4⟩
      exact ⟨rfl, la, o, rfl, g1, g3, g4, .inl (by omega)⟩
    rintro c st' ⟨rfl, la, o, rfl, g1, g3, g4, g5⟩
    dsimp only
    have t1 : ∀ i, i < hint + 1 - min o (hint + 1) → Bf r left key xs (base + i) = true := fun i hi => by
      rcases g5 with z | z
      · omega
      · exact mono i (hint - o) (by omega) (by omega) z
    have t2 : ∀ i, hint - la ≤ i → i < n → Bf r left key xs (base + i) = false := fun i q1 q2 => monoF (hint - la) i q1 q2 g4
    refine wpS_bind (wpS_mono (wpS_forRange (I := fun x c st1 => st1 = st' ∧ ∃ l u, c = (none, l, u) ∧ l ≤ u ∧ u ≤ n ∧ u - l ≤ n - x ∧ (∀ i, i < l → Bf r left key xs (base + i) = true) ∧ ∀ i, u ≤ i → i < n → Bf r left key xs (base + i) = false)
      (Q := fun c st1 => st1 = st' ∧ ∃ l u, c = (none, l, u) ∧ u ≤ n ∧ (∀ i, i < u → Bf r left key xs (base + i) = true) ∧ ∀ i, u ≤ i → i < n → Bf r left key xs (base + i) = false) ?_ ?_ ⟨rfl, _, _, rfl, by omega, by omega, by omega, t1, t2⟩) ?_)
    · rintro x c st1 hx1 hx2 ⟨rfl, l, u, rfl, q1, q2, q3, q4, q5⟩
      dsimp only
      by_cases hge : l ≥ u
      · rw [if_pos hge]
        exact wpS_pure ⟨rfl, l, u, rfl, q2, fun i hi => q4 i (by omega), q5⟩
      · rw [if_neg hge]
        refine wpS_bind (beyond (l + (u - l) / 2) _ (by omega) ?_)
        dsimp only
        cases hb : Bf r left key xs (base + (l + (u - l) / 2)) with
        | true =>
          rw [if_pos rfl]
          exact wpS_pure ⟨rfl, _, _, rfl, by omega, by omega, by omega, fun i hi => mono i (l + (u - l) / 2) (by omega) (by omega) hb, q5⟩
        | false =>
          rw [if_neg (by decide)]
          exact wpS_pure ⟨rfl, _, _, rfl, by omega, by omega, by omega, q4, fun i z1 z2 => monoF (l + (u - l) / 2) i z1 z2 hb⟩
    · rintro c st1 ⟨rfl, l, u, rfl, q1, q2, q3, q4, q5⟩
      exact ⟨rfl, l, u, rfl, q2, fun i hi => q4 i (by omega), q5⟩
    · rintro c st1 ⟨rfl, l, u, rfl, q2, q4, q5⟩
      exact wpS_pure (h u q2 q4 q5)
end TS
namespace TS
open PySem PyProof.Rows
variable {prog : Program} {w : World} {A : Around} {E : Value → Shared → Prop} {s : Shared} {a₀ : Array Keyed} {r : Keyed → Nat} {k0 : SortKind}
def le (r : Keyed → Nat) (x y : Keyed) : Prop := r x ≤ r y
abbrev Srt (r : Keyed → Nat) (l : List Keyed) : Prop := l.Pairwise (le r)
theorem Rk_list {xs : Array Keyed} {i : Nat} {p : Keyed} (h : xs.toList[i]? = some p) : Rk r xs i = r p := Rk_eq (by rw [← Array.getElem?_toList]; exact h)
theorem up_of {xs : Array Keyed} {base n : Nat} (hsz : base + n ≤ xs.size) (h : Srt r ((xs.toList.drop base).take n)) : Up r xs base (base + n) := by
  intro i j g1 g2 g3
  by_cases e : i = j
  · subst e; exact Nat.le_refl _
  have hl : xs.toList.length = xs.size := Array.length_toList
  have hi : ((xs.toList.drop base).take n)[i - base]? = some (xs.toList[i]'(by omega)) := by
    rw [List.getElem?_take, if_pos (by omega), List.getElem?_drop, show base + (i - base) = i by omega, List.getElem?_eq_getElem]
  have hj : ((xs.toList.drop base).take n)[j - base]? = some (xs.toList[j]'(by omega)) := by
    rw [List.getElem?_take, if_pos (by omega), List.getElem?_drop, show base + (j - base) = j by omega, List.getElem?_eq_getElem]
  obtain ⟨hi1, hi2⟩ := List.getElem?_eq_some_iff.mp hi
  obtain ⟨hj1, hj2⟩ := List.getElem?_eq_some_iff.mp hj
  have := List.pairwise_iff_getElem.mp h (i - base) (j - base) hi1 hj1 (by omega)
  rw [hi2, hj2] at this
  rw [Rk_list (List.getElem?_eq_getElem (show i < xs.toList.length by omega)), Rk_list (List.getElem?_eq_getElem (show j < xs.toList.length by omega))]
  exact this
theorem wpS_gallopR (hc : CmpOk prog w A s a₀ r k0) {st : SortSt} (hB : SB a₀ k0 st) {key : Keyed} {xs : Array Keyed} {base n hint : Nat} (hk : key ∈ a₀.toList) (hx : ∀ p ∈ xs.toList, p ∈ a₀.toList) (hsz : base + n ≤ xs.size) (hh : hint < n) (hS : Srt r ((xs.toList.drop base).take n))
    {Q : Option Nat → SortSt → Prop} (h : ∀ k, k ≤ n → (∀ c ∈ (xs.toList.drop base).take k, r c ≤ r key) → (∀ c ∈ ((xs.toList.drop base).take n).drop k, r key < r c) → Q (some k) st) : wpS (model prog w) A E s (gallop' false key xs base n hint) Q st := by
  refine wpS_gallop hc hB hk hx hsz hh (up_of hsz hS) fun k hk' h1 h2 => h k hk' (fun c hcm => ?_) fun c hcm => ?_
  · obtain ⟨i, hi⟩ := List.mem_iff_getElem?.mp hcm
    rw [List.getElem?_take] at hi
    split at hi
    · rename_i hlt
      rw [List.getElem?_drop] at hi
      have := h1 i hlt
      unfold Bf at this
      rw [Rk_list hi] at this
      simp at this
      exact this
    · cases hi
  · obtain ⟨i, hi⟩ := List.mem_iff_getElem?.mp hcm
    rw [List.getElem?_drop, List.getElem?_take] at hi
    split at hi
    · rename_i hlt
      rw [List.getElem?_drop] at hi
      have := h2 (k + i) (by omega) hlt
      unfold Bf at this
      rw [Rk_list hi] at this
      simp at this
      exact this
    · cases hi
theorem wpS_gallopL (hc : CmpOk prog w A s a₀ r k0) {st : SortSt} (hB : SB a₀ k0 st) {key : Keyed} {xs : Array Keyed} {base n hint : Nat} (hk : key ∈ a₀.toList) (hx : ∀ p ∈ xs.toList, p ∈ a₀.toList) (hsz : base + n ≤ xs.size) (hh : hint < n) (hS : Srt r ((xs.toList.drop base).take n))
    {Q : Option Nat → SortSt → Prop} (h : ∀ k, k ≤ n → (∀ c ∈ (xs.toList.drop base).take k, r c < r key) → (∀ c ∈ ((xs.toList.drop base).take n).drop k, r key ≤ r c) → Q (some k) st) : wpS (model prog w) A E s (gallop' true key xs base n hint) Q st := by
  refine wpS_gallop hc hB hk hx hsz hh (up_of hsz hS) fun k hk' h1 h2 => h k hk' (fun c hcm => ?_) fun c hcm => ?_
  · obtain ⟨i, hi⟩ := List.mem_iff_getElem?.mp hcm
    rw [List.getElem?_take] at hi
    split at hi
    · rename_i hlt
      rw [List.getElem?_drop] at hi
      have := h1 i hlt
      unfold Bf at this
      rw [Rk_list hi] at this
      simpa using this
    · cases hi
  · obtain ⟨i, hi⟩ := List.mem_iff_getElem?.mp hcm
    rw [List.getElem?_drop, List.getElem?_take] at hi
    split at hi
    · rename_i hlt
      rw [List.getElem?_drop] at hi
      have := h2 (k + i) (by omega) hlt
      unfold Bf at this
      rw [Rk_list hi] at this
      simpa using this
    · cases hi
theorem push_mid {out C LA LB : List Keyed} (h1 : Srt r (out ++ LA)) (h2 : Srt r (out ++ (C ++ LB))) (h3 : ∀ c ∈ C, ∀ y ∈ LA, r c ≤ r y) : Srt r ((out ++ C) ++ LA) ∧ Srt r ((out ++ C) ++ LB) := by
  constructor
  · rw [List.append_assoc]
    obtain ⟨a1, a2, a3⟩ := List.pairwise_append.mp h1
    obtain ⟨b1, b2, b3⟩ := List.pairwise_append.mp h2
    obtain ⟨c1, c2, c3⟩ := List.pairwise_append.mp b2
    refine List.pairwise_append.mpr ⟨a1, List.pairwise_append.mpr ⟨c1, a2, h3⟩, fun x hx y hy => ?_⟩
    rcases List.mem_append.mp hy with hy | hy
    · exact b3 x hx y (List.mem_append_left _ hy)
    · exact a3 x hx y hy
  · rw [List.append_assoc]; exact h2
structure ML (r : Keyed → Nat) (la lb out : List Keyed) (ia ib : Nat) : Prop where
  perm : out.Perm (la.take ia ++ lb.take ib)
  sa : Srt r (out ++ la.drop ia)
  sb : Srt r (out ++ lb.drop ib)
theorem ML.pushB {la lb out : List Keyed} {ia ib k : Nat} (h : ML r la lb out ia ib) (hle : ∀ c ∈ (lb.drop ib).take k, ∀ y ∈ la.drop ia, r c ≤ r y) : ML r la lb (out ++ (lb.drop ib).take k) ia (ib + k) := by
  have e : (lb.drop ib).take k ++ lb.drop (ib + k) = lb.drop ib := by rw [← List.drop_drop, List.take_append_drop]
  obtain ⟨p1, p2⟩ := push_mid (C := (lb.drop ib).take k) (LB := lb.drop (ib + k)) h.sa (by rw [e]; exact h.sb) hle
  refine ⟨?_, p1, p2⟩
  rw [List.take_add, ← List.append_assoc]
  exact h.perm.append_right _
theorem ML.pushA {la lb out : List Keyed} {ia ib k : Nat} (h : ML r la lb out ia ib) (hle : ∀ c ∈ (la.drop ia).take k, ∀ y ∈ lb.drop ib, r c ≤ r y) : ML r la lb (out ++ (la.drop ia).take k) (ia + k) ib := by
  have e : (la.drop ia).take k ++ la.drop (ia + k) = la.drop ia := by rw [← List.drop_drop, List.take_append_drop]
  obtain ⟨p1, p2⟩ := push_mid (C := (la.drop ia).take k) (LB := la.drop (ia + k)) h.sb (by rw [e]; exact h.sa) hle
  refine ⟨?_, p2, p1⟩
  rw [List.take_add, List.append_assoc]
  refine (h.perm.append_right _).trans ?_
  rw [List.append_assoc]
  exact List.Perm.append_left _ List.perm_append_comm
structure Mg (r : Keyed → Nat) (la lb out : List Keyed) : Prop where
  perm : out.Perm (la ++ lb)
  srt : Srt r out
theorem ML.doneB {la lb out : List Keyed} {ia ib : Nat} (h : ML r la lb out ia ib) (hb : lb.length ≤ ib) : Mg r la lb (out ++ la.drop ia ++ lb.drop ib) := by
  have e : lb.drop ib = [] := List.drop_eq_nil_of_le hb
  rw [e, List.append_nil]
  refine ⟨?_, h.sa⟩
  have := h.perm.append_right (la.drop ia)
  rw [List.take_of_length_le hb] at this
  refine this.trans ?_
  rw [List.append_assoc]
  refine (List.Perm.append_left _ List.perm_append_comm).trans ?_
  rw [← List.append_assoc, List.take_append_drop]
theorem ML.doneA {la lb out : List Keyed} {ia ib : Nat} (h : ML r la lb out ia ib) (ha : la.length ≤ ia) : Mg r la lb (out ++ la.drop ia ++ lb.drop ib) := by
  have e : la.drop ia = [] := List.drop_eq_nil_of_le ha
  rw [e, List.append_nil]
  refine ⟨?_, h.sb⟩
  have := h.perm.append_right (lb.drop ib)
  rw [List.take_of_length_le ha] at this
  refine this.trans ?_
  rw [List.append_assoc, List.take_append_drop]
theorem ML.lastA {la lb out : List Keyed} {ia ib : Nat} (h : ML r la lb out ia ib) (ha : ia + 1 = la.length) (hl : ∀ x, la[la.length - 1]? = some x → ∀ y ∈ lb, r y ≤ r x) : Mg r la lb (out ++ lb.drop ib ++ la.drop ia) := by
  have hd : ∀ x ∈ la.drop ia, ∀ y ∈ lb, r y ≤ r x := fun x hx => by
    obtain ⟨i, hi⟩ := List.mem_iff_getElem?.mp hx
    rw [List.getElem?_drop] at hi
    have := (List.getElem?_eq_some_iff.mp hi).1
    have e : ia + i = la.length - 1 := by omega
    rw [e] at hi
    exact hl x hi
  constructor
  · have := (h.perm.append_right (lb.drop ib)).append_right (la.drop ia)
    refine this.trans ?_
    rw [List.append_assoc, List.append_assoc, ← List.append_assoc (lb.take ib), List.take_append_drop]
    refine (List.Perm.append_left _ List.perm_append_comm).trans ?_
    rw [← List.append_assoc, List.take_append_drop]
  · obtain ⟨a1, a2, a3⟩ := List.pairwise_append.mp h.sa
    obtain ⟨b1, b2, b3⟩ := List.pairwise_append.mp h.sb
    refine List.pairwise_append.mpr ⟨h.sb, a2, fun x hx y hy => ?_⟩
    rcases List.mem_append.mp hx with hx | hx
    · exact a3 x hx y hy
    · exact hd y hy x (List.mem_of_mem_drop hx)
structure Gl (a₀ : Array Keyed) (k0 : SortKind) (st st' : SortSt) : Prop where
  base : SB a₀ k0 st'
  arr : arrOf st' = arrOf st
  pend : pendingOf st' = pendingOf st
theorem Gl.refl {st : SortSt} (h : SB a₀ k0 st) : Gl a₀ k0 st st := ⟨h, rfl, rfl⟩
theorem ext_drop (a : Array Keyed) (i : Nat) : (a.extract i).toList = a.toList.drop i := by
  simp [List.take_of_length_le]
theorem ext_take (a : Array Keyed) (i k : Nat) : (a.extract i (i + k)).toList = (a.toList.drop i).take k := by
  simp
theorem get_of {a : Array Keyed} {i : Nat} (h : i < a.size) : ∃ p, a[i]? = some p ∧ a.toList[i]? = some p ∧ p ∈ a.toList ∧ a.toList.drop i = p :: a.toList.drop (i + 1) := by
  have hl : i < a.toList.length := by rw [Array.length_toList]; exact h
  refine ⟨a.toList[i], ?_, List.getElem?_eq_getElem hl, List.getElem_mem hl, List.drop_eq_getElem_cons hl⟩
  rw [← Array.getElem?_toList]
  exact List.getElem?_eq_getElem hl
theorem srt_sfx {X Y : List Keyed} (h : Srt r (X ++ Y)) : Srt r Y := (List.pairwise_append.mp h).2.1
theorem wpS_mergeLo (hc : CmpOk prog w A s a₀ r k0) {st : SortSt} (hB : SB a₀ k0 st) {a b : Array Keyed} (ha : ∀ p ∈ a.toList, p ∈ a₀.toList) (hb : ∀ p ∈ b.toList, p ∈ a₀.toList) (sa : Srt r a.toList) (sb : Srt r b.toList) (za : 1 ≤ a.size) (zb : 1 ≤ b.size)
    (hf : ∀ x y, a[0]? = some x → b[0]? = some y → r y ≤ r x) (hl : ∀ x, a.toList[a.toList.length - 1]? = some x → ∀ y ∈ b.toList, r y ≤ r x) {Q : Array Keyed → SortSt → Prop}
    (h : ∀ out st', Mg r a.toList b.toList out.toList → Gl a₀ k0 st st' → Q out st') : wpS (model prog w) A E s (mergeLo' a b) Q st := by
  unfold mergeLo'
  refine wpS_bind (wpS_lift (wpAny_rule ⟨rfl, ?_⟩))
  have hal : a.toList.length = a.size := Array.length_toList
  have hbl : b.toList.length = b.size := Array.length_toList
  obtain ⟨y0, hy0, hy1, hy2, hy3⟩ := get_of (a := b) (i := 0) (by omega)
  obtain ⟨x0, hx0, hx1, hx2, hx3⟩ := get_of (a := a) (i := 0) (by omega)
  rw [List.drop_zero] at hy3 hx3
  have ml0 : ML r a.toList b.toList (#[y0] : Array Keyed).toList 0 1 := by
    refine ⟨?_, ?_, ?_⟩
    · rw [hy3]; simp
    · show Srt r ([y0] ++ a.toList.drop 0)
      rw [List.drop_zero]
      refine List.pairwise_append.mpr ⟨List.pairwise_singleton _ _, sa, fun u hu v hv => ?_⟩
      rw [List.mem_singleton.mp hu]
      have h0 := hf x0 y0 hx0 hy0
      rw [hx3] at hv sa
      rcases List.mem_cons.mp hv with rfl | hv
      · exact h0
      · exact Nat.le_trans h0 ((List.pairwise_cons.mp sa).1 v hv)
    · show Srt r ([y0] ++ b.toList.drop 1)
      have : [y0] ++ b.toList.drop (0 + 1) = b.toList := hy3.symm
      rw [Nat.zero_add] at this
      rw [this]; exact sb
  refine wpS_bind (wpS_elem hy0 ?_)
  dsimp only
  have fin1 : ∀ {out : Array Keyed} {ia ib : Nat}, ML r a.toList b.toList out.toList ia ib → b.size ≤ ib → Mg r a.toList b.toList (out ++ a.extract ia ++ b.extract ib).toList := fun hm hb => by
    rw [Array.toList_append, Array.toList_append, ext_drop, ext_drop]; exact hm.doneB (by omega)
  have fin2 : ∀ {out : Array Keyed} {ia ib : Nat}, ML r a.toList b.toList out.toList ia ib → a.size ≤ ia → Mg r a.toList b.toList (out ++ a.extract ia ++ b.extract ib).toList := fun hm hb => by
    rw [Array.toList_append, Array.toList_append, ext_drop, ext_drop]; exact hm.doneA (by omega)
  have fin3 : ∀ {out : Array Keyed} {ia ib : Nat}, ML r a.toList b.toList out.toList ia ib → ia + 1 = a.size → Mg r a.toList b.toList (out ++ b.extract ib ++ a.extract ia).toList := fun hm hb => by
    rw [Array.toList_append, Array.toList_append, ext_drop, ext_drop]; exact hm.lastA (by omega) hl
  have pB : ∀ {out : Array Keyed} {ia ib : Nat} {p : Keyed}, ML r a.toList b.toList out.toList ia ib → b.toList.drop ib = p :: b.toList.drop (ib + 1) → (∀ y ∈ a.toList.drop ia, r p ≤ r y) → ML r a.toList b.toList (out.push p).toList ia (ib + 1) := fun {out ia ib p} hm hd hle => by
    have := hm.pushB (k := 1) (fun c hc y hy => by rw [hd] at hc; simp at hc; subst hc; exact hle y hy)
    rw [hd] at this
    rw [Array.toList_push]
    simpa using this
  have pA : ∀ {out : Array Keyed} {ia ib : Nat} {p : Keyed}, ML r a.toList b.toList out.toList ia ib → a.toList.drop ia = p :: a.toList.drop (ia + 1) → (∀ y ∈ b.toList.drop ib, r p ≤ r y) → ML r a.toList b.toList (out.push p).toList (ia + 1) ib := fun {out ia ib p} hm hd hle => by
    have := hm.pushA (k := 1) (fun c hc y hy => by rw [hd] at hc; simp at hc; subst hc; exact hle y hy)
    rw [hd] at this
    rw [Array.toList_push]
    simpa using this
  by_cases hb1 : 1 = b.size
  · rw [if_pos (by simpa using hb1)]
    exact wpS_pure (h _ _ (fin1 ml0 (by omega)) (Gl.refl hB))
  rw [if_neg (by simpa using hb1)]
  by_cases ha1 : 0 + 1 = a.size
  · rw [if_pos (by simpa using ha1)]
    exact wpS_pure (h _ _ (fin3 ml0 ha1) (Gl.refl hB))
  rw [if_neg (by simpa using ha1)]
  refine wpS_bind (wpS_get ?_)
  refine wpS_bind (wpS_mono (wpS_forRange (I := fun x c st' => ∃ out ia ib mg, c = (none, out, ia, ib, mg) ∧ Gl a₀ k0 st st' ∧ ML r a.toList b.toList out.toList ia ib ∧ ia + 1 < a.size ∧ ib < b.size ∧ x + 1 ≤ ia + ib)
    (Q := fun c st' => ∃ res rest, c = (some res, rest) ∧ Gl a₀ k0 st st' ∧ Mg r a.toList b.toList res.toList) ?_ ?_ ⟨_, _, _, _, rfl, Gl.refl hB, ml0, by omega, by omega, by omega⟩) ?_)
  rotate_left
  · rintro c st' ⟨out, ia, ib, mg, rfl, hG, hM, g1, g2, g3⟩
    omega
  · rintro c st' ⟨res, rest, rfl, hG, hM⟩
    exact wpS_pure (h res st' hM hG)
  rintro x c st1 _ _ ⟨out, ia, ib, mg, rfl, hG, hM, g1, g2, g3⟩
  dsimp only
  refine wpS_bind (wpS_mono (wpS_forRange (I := fun y c st' => ∃ out1 ia1 ib1 ac bc, c = (none, out1, ia1, ib1, ac, bc) ∧ Gl a₀ k0 st st' ∧ ML r a.toList b.toList out1.toList ia1 ib1 ∧ ia1 + 1 < a.size ∧ ib1 < b.size ∧ ia + ib + y ≤ ia1 + ib1)
    (Q := fun c st' => (∃ out1 ia1 ib1 ac bc, c = (none, out1, ia1, ib1, ac, bc) ∧ Gl a₀ k0 st st' ∧ ML r a.toList b.toList out1.toList ia1 ib1 ∧ ia1 + 1 < a.size ∧ ib1 < b.size ∧ ia + ib + 1 ≤ ia1 + ib1) ∨ ∃ res rest, c = (some res, rest) ∧ Gl a₀ k0 st st' ∧ Mg r a.toList b.toList res.toList) ?_ ?_ ⟨_, _, _, _, _, rfl, hG, hM, g1, g2, by omega⟩) ?_)
  · rintro y c st2 _ _ ⟨out1, ia1, ib1, ac, bc, rfl, hG1, hM1, q1, q2, q3⟩
    obtain ⟨u, hu0, hu1, hu2, hu3⟩ := get_of (a := b) (i := ib1) q2
    obtain ⟨v, hv0, hv1, hv2, hv3⟩ := get_of (a := a) (i := ia1) (by omega)
    dsimp only
    refine wpS_bind (wpS_elem hu0 (wpS_bind (wpS_elem hv0 (wpS_bind (wpS_lt hc hG1.base (hb u hu2) (ha v hv2) ?_)))))
    dsimp only
    have sva := srt_sfx hM1.sa
    have svb := srt_sfx hM1.sb
    rw [hv3] at sva
    rw [hu3] at svb
    by_cases hlt : r u < r v
    · rw [decide_eq_true hlt, if_pos rfl]
      refine wpS_bind (wpS_elem hu0 ?_)
      have hM2 := pB hM1 hu3 (fun z hz => by
        rw [hv3] at hz
        rcases List.mem_cons.mp hz with rfl | hz
        · omega
        · exact Nat.le_trans (Nat.le_of_lt hlt) ((List.pairwise_cons.mp sva).1 z hz))
      try dsimp only
      by_cases e1 : ib1 + 1 = b.size
      · rw [if_pos (by simpa using e1)]
        exact wpS_pure (.inr ⟨_, _, rfl, hG1, fin1 hM2 (by omega)⟩)
      · rw [if_neg (by simpa using e1)]
        by_cases e2 : bc + 1 ≥ mg
        · rw [if_pos e2]
          exact wpS_pure (.inl ⟨_, _, _, _, _, rfl, hG1, hM2, q1, by omega, by omega⟩)
        · rw [if_neg e2]
          exact wpS_pure ⟨_, _, _, _, _, rfl, hG1, hM2, q1, by omega, by omega⟩
    · rw [decide_eq_false hlt, if_neg (by decide)]
      refine wpS_bind (wpS_elem hv0 ?_)
      have hM2 := pA hM1 hv3 (fun z hz => by
        rw [hu3] at hz
        rcases List.mem_cons.mp hz with rfl | hz
        · omega
        · have := (List.pairwise_cons.mp svb).1 z hz
          unfold le at this
          omega)
      try dsimp only
      by_cases e1 : ia1 + 1 + 1 = a.size
      · rw [if_pos (by simpa using e1)]
        exact wpS_pure (.inr ⟨_, _, rfl, hG1, fin3 hM2 e1⟩)
      · rw [if_neg (by simpa using e1)]
        by_cases e2 : ac + 1 ≥ mg
        · rw [if_pos e2]
          exact wpS_pure (.inl ⟨_, _, _, _, _, rfl, hG1, hM2, by omega, q2, by omega⟩)
        · rw [if_neg e2]
          exact wpS_pure ⟨_, _, _, _, _, rfl, hG1, hM2, by omega, q2, by omega⟩
  · rintro c st' ⟨out1, ia1, ib1, ac, bc, rfl, hG1, hM1, q1, q2, q3⟩
    omega
  rintro c st2 (⟨out1, ia1, ib1, ac, bc, rfl, hG1, hM1, q1, q2, q3⟩ | ⟨res, rest, rfl, hG1, hM1⟩)
  rotate_left
  · dsimp only
    exact wpS_pure ⟨_, _, rfl, hG1, hM1⟩
  dsimp only
  refine wpS_bind (wpS_lift (wpAny_rule ⟨rfl, ?_⟩))
  refine wpS_bind (wpS_mono (wpS_forRange (I := fun y c st' => ∃ out2 ia2 ib2 mg ac bc, c = (none, out2, ia2, ib2, mg, ac, bc) ∧ Gl a₀ k0 st st' ∧ ML r a.toList b.toList out2.toList ia2 ib2 ∧ ia2 + 1 < a.size ∧ ib2 < b.size ∧ ia + ib + 1 ≤ ia2 + ib2)
    (Q := fun c st' => (∃ out2 ia2 ib2 mg ac bc, c = (none, out2, ia2, ib2, mg, ac, bc) ∧ Gl a₀ k0 st st' ∧ ML r a.toList b.toList out2.toList ia2 ib2 ∧ ia2 + 1 < a.size ∧ ib2 < b.size ∧ ia + ib + 1 ≤ ia2 + ib2) ∨ ∃ res rest, c = (some res, rest) ∧ Gl a₀ k0 st st' ∧ Mg r a.toList b.toList res.toList) ?_ ?_ ⟨_, _, _, _, _, _, rfl, hG1, hM1, q1, q2, q3⟩) ?_)
  · rintro y c st3 _ _ ⟨out2, ia2, ib2, mg2, ac2, bc2, rfl, hG2, hM2, w1, w2, w3⟩
    obtain ⟨u, hu0, hu1, hu2, hu3⟩ := get_of (a := b) (i := ib2) w2
    dsimp only
    by_cases hmg : mg2 > 1
    case' pos => rw [if_pos hmg]
    case' neg => rw [if_neg hmg]
    all_goals
      have hG3 : ∀ g, Gl a₀ k0 st (SortSt.mk' (kindOf st3) (arrOf st3) (pendingOf st3) g (failedOf st3)) := fun g => ⟨⟨hG2.base.perm, hG2.base.kind, hG2.base.failed⟩, hG2.arr, hG2.pend⟩
      refine wpS_bind (wpS_modify ?_)
      refine wpS_bind (wpS_elem hu0 (wpS_bind (wpS_gallopR (base := ia2) (n := a.size - ia2) (hint := 0) hc (hG3 _).base (hb u hu2) ha (by omega) (by omega) (by rw [List.take_of_length_le (by simp)]; exact srt_sfx hM2.sa) fun k hk hk1 hk2 => ?_)))
      dsimp only
      have hkl : (a.toList.drop ia2).take (a.size - ia2) = a.toList.drop ia2 := List.take_of_length_le (by simp)
      rw [hkl, List.drop_drop] at hk2
      have svb := srt_sfx hM2.sb
      rw [hu3] at svb
      have hM3 := hM2.pushA (k := k) fun c hc z hz => by
        have e1 := hk1 c hc
        rw [hu3] at hz
        rcases List.mem_cons.mp hz with rfl | hz
        · exact e1
        · exact Nat.le_trans e1 ((List.pairwise_cons.mp svb).1 z hz)
      have eo : (out2 ++ a.extract ia2 (ia2 + k)).toList = out2.toList ++ (a.toList.drop ia2).take k := by rw [Array.toList_append, ext_take]
      rw [← eo] at hM3
      by_cases hk0 : k > 0
      case' pos =>
        rw [if_pos hk0]
        by_cases e1 : ia2 + k + 1 = a.size
        · rw [if_pos (by simpa using e1)]
          exact wpS_pure (.inr ⟨_, _, rfl, hG3 _, fin3 hM3 e1⟩)
        rw [if_neg (by simpa using e1)]
        by_cases e2 : ia2 + k = a.size
        · rw [if_pos (by simpa using e2)]
          exact wpS_pure (.inr ⟨_, _, rfl, hG3 _, fin2 hM3 (by omega)⟩)
        rw [if_neg (by simpa using e2)]
        have hi3 : ia2 + k + 1 < a.size := by omega
        have hp3 : ia + ib + 1 ≤ ia2 + k + ib2 := by omega
        generalize hout3 : out2 ++ a.extract ia2 (ia2 + k) = out3 at *
        generalize hia3 : ia2 + k = ia3 at *
      case' neg =>
        rw [if_neg hk0]
        obtain rfl : k = 0 := by omega
        have hi3 : ia2 + 0 + 1 < a.size := by omega
        have hp3 : ia + ib + 1 ≤ ia2 + 0 + ib2 := by omega
        have eo2 : out2 ++ a.extract ia2 (ia2 + 0) = out2 := Array.toList_inj.mp (by rw [Array.toList_append, ext_take]; simp)
        rw [eo2] at hM3
        rw [Nat.add_zero] at hM3 hk2 hi3 hp3
        generalize hout3 : out2 = out3 at *
        generalize hia3 : ia2 = ia3 at *
      all_goals
        refine wpS_bind (wpS_elem hu0 ?_)
        have hM4 := pB hM3 hu3 (fun z hz => Nat.le_of_lt (hk2 z hz))
        by_cases e3 : ib2 + 1 = b.size
        · rw [if_pos (by simpa using e3)]
          exact wpS_pure (.inr ⟨_, _, rfl, hG3 _, fin1 hM4 (by omega)⟩)
        rw [if_neg (by simpa using e3)]
        obtain ⟨v, hv0, hv1, hv2, hv3⟩ := get_of (a := a) (i := ia3) (by omega)
        refine wpS_bind (wpS_elem hv0 (wpS_bind (wpS_gallopL (base := ib2 + 1) (n := b.size - (ib2 + 1)) (hint := 0) hc (hG3 _).base (ha v hv2) hb (by omega) (by omega) (by rw [List.take_of_length_le (by simp)]; exact srt_sfx hM4.sb) fun k' hk' hk1' hk2' => ?_)))
        dsimp only
        have hkl' : (b.toList.drop (ib2 + 1)).take (b.size - (ib2 + 1)) = b.toList.drop (ib2 + 1) := List.take_of_length_le (by simp)
        rw [hkl', List.drop_drop] at hk2'
        have sva := srt_sfx hM4.sa
        rw [hv3] at sva
        have hM5 := hM4.pushB (k := k') fun c hc z hz => by
          have e1 := hk1' c hc
          rw [hv3] at hz
          rcases List.mem_cons.mp hz with rfl | hz
          · exact Nat.le_of_lt e1
          · exact Nat.le_trans (Nat.le_of_lt e1) ((List.pairwise_cons.mp sva).1 z hz)
        have eo' : (out3.push u ++ b.extract (ib2 + 1) (ib2 + 1 + k')).toList = (out3.push u).toList ++ (b.toList.drop (ib2 + 1)).take k' := by rw [Array.toList_append, ext_take]
        rw [← eo'] at hM5
        by_cases hk0' : k' > 0
        case' pos =>
          rw [if_pos hk0']
          by_cases e4 : ib2 + 1 + k' = b.size
          · rw [if_pos (by simpa using e4)]
            exact wpS_pure (.inr ⟨_, _, rfl, hG3 _, fin1 hM5 (by omega)⟩)
          rw [if_neg (by simpa using e4)]
          have hi4 : ib2 + 1 + k' < b.size := by omega
          have hp4 : ia + ib + 1 ≤ ia3 + (ib2 + 1 + k') := by omega
          generalize out3.push u ++ b.extract (ib2 + 1) (ib2 + 1 + k') = out4 at *
          generalize ib2 + 1 + k' = ib4 at *
        case' neg =>
          rw [if_neg hk0']
          obtain rfl : k' = 0 := by omega
          have hi4 : ib2 + 1 + 0 < b.size := by omega
          have hp4 : ia + ib + 1 ≤ ia3 + (ib2 + 1 + 0) := by omega
          have eo2' : out3.push u ++ b.extract (ib2 + 1) (ib2 + 1 + 0) = out3.push u := Array.toList_inj.mp (by rw [Array.toList_append, ext_take]; simp)
          rw [eo2'] at hM5
          rw [Nat.add_zero] at hM5 hk2' hi4 hp4
          generalize out3.push u = out4 at *
          generalize ib2 + 1 = ib4 at *
        all_goals
          refine wpS_bind (wpS_elem hv0 ?_)
          have hM6 := pA hM5 hv3 (fun z hz => hk2' z hz)
          by_cases e5 : ia3 + 1 + 1 = a.size
          · rw [if_pos (by simpa using e5)]
            exact wpS_pure (.inr ⟨_, _, rfl, hG3 _, fin3 hM6 e5⟩)
          rw [if_neg (by simpa using e5)]
          split
          · exact wpS_pure (.inl ⟨_, _, _, _, _, _, rfl, hG3 _, hM6, by omega, hi4, by omega⟩)
          · exact wpS_pure ⟨_, _, _, _, _, _, rfl, hG3 _, hM6, by omega, hi4, by omega⟩
  · rintro c st' ⟨out2, ia2, ib2, mg2, ac2, bc2, rfl, hG2, hM2, w1, w2, w3⟩
    exact .inl ⟨_, _, _, _, _, _, rfl, hG2, hM2, w1, w2, w3⟩
  · rintro c st3 (⟨out2, ia2, ib2, mg2, ac2, bc2, rfl, hG2, hM2, w1, w2, w3⟩ | ⟨res, rest, rfl, hG2, hM2⟩)
    · dsimp only
      refine wpS_bind (wpS_modify (wpS_pure ⟨_, _, _, _, rfl, ⟨⟨hG2.base.perm, hG2.base.kind, hG2.base.failed⟩, hG2.arr, hG2.pend⟩, hM2, w1, w2, by omega⟩))
    · dsimp only
      exact wpS_pure ⟨_, _, rfl, hG2, hM2⟩
end TS
namespace TS
open PySem PyProof.Rows
variable {prog : Program} {w : World} {A : Around} {E : Value → Shared → Prop} {s : Shared} {a₀ : Array Keyed} {r : Keyed → Nat} {k0 : SortKind}
structure MH (r : Keyed → Nat) (la lb O : List Keyed) (na nb : Nat) : Prop where
  perm : O.Perm (la.drop na ++ lb.drop nb)
  sa : Srt r (la.take na ++ O)
  sb : Srt r (lb.take nb ++ O)
theorem push_midR {X Y C O : List Keyed} (h1 : Srt r (Y ++ O)) (h2 : Srt r ((X ++ C) ++ O)) (h3 : ∀ y ∈ Y, ∀ c ∈ C, r y ≤ r c) : Srt r (Y ++ (C ++ O)) ∧ Srt r (X ++ (C ++ O)) := by
  rw [List.append_assoc] at h2
  refine ⟨?_, h2⟩
  obtain ⟨a1, a2, a3⟩ := List.pairwise_append.mp h1
  obtain ⟨b1, b2, b3⟩ := List.pairwise_append.mp h2
  refine List.pairwise_append.mpr ⟨a1, b2, fun x hx y hy => ?_⟩
  rcases List.mem_append.mp hy with hy | hy
  · exact h3 x hx y hy
  · exact a3 x hx y hy
theorem take_split (l : List Keyed) {k n : Nat} (h : k ≤ n) : l.take k ++ (l.take n).drop k = l.take n := by
  have := List.take_append_drop k (l.take n)
  rwa [List.take_take, Nat.min_eq_left h] at this
theorem drop_split (l : List Keyed) {k n : Nat} (h : k ≤ n) : (l.take n).drop k ++ l.drop n = l.drop k := by
  rw [List.drop_take]
  have e : l.drop n = (l.drop k).drop (n - k) := by rw [List.drop_drop]; congr 1; omega
  rw [e, List.take_append_drop]
theorem MH.pushA {la lb O : List Keyed} {na nb k : Nat} (h : MH r la lb O na nb) (hk : k ≤ na) (hle : ∀ y ∈ lb.take nb, ∀ c ∈ (la.take na).drop k, r y ≤ r c) : MH r la lb ((la.take na).drop k ++ O) k nb := by
  obtain ⟨p1, p2⟩ := push_midR (X := la.take k) (C := (la.take na).drop k) h.sb (by rw [take_split la hk]; exact h.sa) hle
  refine ⟨?_, p2, p1⟩
  rw [← drop_split la hk, List.append_assoc]
  exact h.perm.append_left _
theorem MH.pushB {la lb O : List Keyed} {na nb k : Nat} (h : MH r la lb O na nb) (hk : k ≤ nb) (hle : ∀ y ∈ la.take na, ∀ c ∈ (lb.take nb).drop k, r y ≤ r c) : MH r la lb ((lb.take nb).drop k ++ O) na k := by
  obtain ⟨p1, p2⟩ := push_midR (X := lb.take k) (C := (lb.take nb).drop k) h.sa (by rw [take_split lb hk]; exact h.sb) hle
  refine ⟨?_, p1, p2⟩
  rw [← drop_split lb hk]
  refine (h.perm.append_left _).trans ?_
  rw [← List.append_assoc, ← List.append_assoc]
  exact List.perm_append_comm.append_right _
theorem MH.doneA {la lb O : List Keyed} {nb : Nat} (h : MH r la lb O 0 nb) : Mg r la lb (la.take 0 ++ lb.take nb ++ O) := by
  rw [List.take_zero, List.nil_append]
  refine ⟨?_, h.sb⟩
  refine (h.perm.append_left _).trans ?_
  rw [List.drop_zero, ← List.append_assoc]
  refine (List.perm_append_comm.append_right _).trans ?_
  rw [List.append_assoc, List.take_append_drop]
theorem MH.doneB {la lb O : List Keyed} {na : Nat} (h : MH r la lb O na 0) : Mg r la lb (la.take na ++ lb.take 0 ++ O) := by
  rw [List.take_zero, List.append_nil]
  refine ⟨?_, h.sa⟩
  refine (h.perm.append_left _).trans ?_
  rw [List.drop_zero, ← List.append_assoc, List.take_append_drop]
theorem MH.firstB {la lb O : List Keyed} {na : Nat} (h : MH r la lb O na 1) (hf : ∀ y ∈ lb.take 1, ∀ x ∈ la, r y ≤ r x) : Mg r la lb (lb.take 1 ++ la.take na ++ O) := by
  constructor
  · rw [List.append_assoc]
    refine ((h.perm.append_left _).append_left _).trans ?_
    rw [← List.append_assoc (la.take na), List.take_append_drop, ← List.append_assoc]
    refine (List.perm_append_comm.append_right _).trans ?_
    rw [List.append_assoc, List.take_append_drop]
  · rw [List.append_assoc]
    obtain ⟨b1, b2, b3⟩ := List.pairwise_append.mp h.sb
    refine List.pairwise_append.mpr ⟨b1, h.sa, fun x hx y hy => ?_⟩
    rcases List.mem_append.mp hy with hy | hy
    · exact hf x hx y (List.mem_of_mem_take hy)
    · exact b3 x hx y hy
theorem ext_zero (a : Array Keyed) (n : Nat) : (a.extract 0 n).toList = a.toList.take n := by simp
theorem ext_mid (a : Array Keyed) (k n : Nat) : (a.extract k n).toList = (a.toList.take n).drop k := by simp [List.drop_take]
theorem get_last {a : Array Keyed} {n : Nat} (h : n < a.size) : ∃ p, a[n]? = some p ∧ p ∈ a.toList ∧ (a.toList.take (n + 1)).drop n = [p] ∧ a.toList.take (n + 1) = a.toList.take n ++ [p] := by
  have hl : n < a.toList.length := by rw [Array.length_toList]; exact h
  refine ⟨a.toList[n], ?_, List.getElem_mem hl, ?_, ?_⟩
  · rw [← Array.getElem?_toList]; exact List.getElem?_eq_getElem hl
  · rw [List.drop_take, show n + 1 - n = 1 by omega, List.drop_eq_getElem_cons hl]; rfl
  · rw [List.take_add_one, List.getElem?_eq_getElem hl]; rfl
theorem wpS_mergeHi (hc : CmpOk prog w A s a₀ r k0) {st : SortSt} (hB : SB a₀ k0 st) {a b : Array Keyed} (ha : ∀ p ∈ a.toList, p ∈ a₀.toList) (hb : ∀ p ∈ b.toList, p ∈ a₀.toList) (sa : Srt r a.toList) (sb : Srt r b.toList) (za : 1 ≤ a.size) (zb : 1 ≤ b.size)
    (hf : ∀ y ∈ b.toList.take 1, ∀ x ∈ a.toList, r y ≤ r x) (hl : ∀ x ∈ a.toList.drop (a.size - 1), ∀ y ∈ b.toList, r y ≤ r x) {Q : Array Keyed → SortSt → Prop}
    (h : ∀ out st', Mg r a.toList b.toList out.toList → Gl a₀ k0 st st' → Q out st') : wpS (model prog w) A E s (mergeHi' a b) Q st := by
  unfold mergeHi'
  refine wpS_bind (wpS_lift (wpAny_rule ⟨rfl, ?_⟩))
  have hal : a.toList.length = a.size := Array.length_toList
  have hbl : b.toList.length = b.size := Array.length_toList
  obtain ⟨x0, hx0, hx1, hx2, hx3⟩ := get_last (a := a) (n := a.size - 1) (by omega)
  rw [show a.size - 1 + 1 = a.size by omega, List.take_of_length_le (by omega)] at hx2 hx3
  have mh0 : MH r a.toList b.toList (#[x0] : Array Keyed).toList.reverse (a.size - 1) b.size := by
    refine ⟨?_, ?_, ?_⟩
    · rw [hx2, List.drop_eq_nil_of_le (by omega)]; simp
    · show Srt r (a.toList.take (a.size - 1) ++ [x0])
      rw [← hx3]; exact sa
    · show Srt r (b.toList.take b.size ++ [x0])
      rw [List.take_of_length_le (by omega)]
      refine List.pairwise_append.mpr ⟨sb, List.pairwise_singleton _ _, fun u hu v hv => ?_⟩
      rw [List.mem_singleton.mp hv]
      exact hl x0 (by rw [hx2]; simp) u hu
  have fin1 : ∀ {out : Array Keyed} {na nb : Nat}, MH r a.toList b.toList out.toList.reverse na nb → na = 0 → Mg r a.toList b.toList (a.extract 0 na ++ b.extract 0 nb ++ out.reverse).toList := fun hm e => by
    subst e
    rw [Array.toList_append, Array.toList_append, ext_zero, ext_zero, Array.toList_reverse]; exact hm.doneA
  have fin2 : ∀ {out : Array Keyed} {na nb : Nat}, MH r a.toList b.toList out.toList.reverse na nb → nb = 0 → Mg r a.toList b.toList (a.extract 0 na ++ b.extract 0 nb ++ out.reverse).toList := fun hm e => by
    subst e
    rw [Array.toList_append, Array.toList_append, ext_zero, ext_zero, Array.toList_reverse]; exact hm.doneB
  have fin3 : ∀ {out : Array Keyed} {na nb : Nat}, MH r a.toList b.toList out.toList.reverse na nb → nb = 1 → Mg r a.toList b.toList (b.extract 0 nb ++ a.extract 0 na ++ out.reverse).toList := fun hm e => by
    subst e
    rw [Array.toList_append, Array.toList_append, ext_zero, ext_zero, Array.toList_reverse]; exact hm.firstB hf
  have pA : ∀ {out : Array Keyed} {na nb : Nat} {p : Keyed}, MH r a.toList b.toList out.toList.reverse (na + 1) nb → (a.toList.take (na + 1)).drop na = [p] → (∀ y ∈ b.toList.take nb, r y ≤ r p) → MH r a.toList b.toList (out.push p).toList.reverse na nb := fun {out na nb p} hm hd hle => by
    have := hm.pushA (k := na) (by omega) (fun y hy c hc => by rw [hd] at hc; rw [List.mem_singleton.mp hc]; exact hle y hy)
    rw [hd] at this
    rw [Array.toList_push, List.reverse_append]
    exact this
  have pB : ∀ {out : Array Keyed} {na nb : Nat} {p : Keyed}, MH r a.toList b.toList out.toList.reverse na (nb + 1) → (b.toList.take (nb + 1)).drop nb = [p] → (∀ y ∈ a.toList.take na, r y ≤ r p) → MH r a.toList b.toList (out.push p).toList.reverse na nb := fun {out na nb p} hm hd hle => by
    have := hm.pushB (k := nb) (by omega) (fun y hy c hc => by rw [hd] at hc; rw [List.mem_singleton.mp hc]; exact hle y hy)
    rw [hd] at this
    rw [Array.toList_push, List.reverse_append]
    exact this
  refine wpS_bind (wpS_elem hx0 ?_)
  dsimp only
  by_cases ha1 : a.size - 1 = 0
  · rw [if_pos (by simpa using ha1)]
    exact wpS_pure (h _ _ (fin1 mh0 ha1) (Gl.refl hB))
  rw [if_neg (by simpa using ha1)]
  by_cases hb1 : b.size = 1
  · rw [if_pos (by simpa using hb1)]
    exact wpS_pure (h _ _ (fin3 mh0 hb1) (Gl.refl hB))
  rw [if_neg (by simpa using hb1)]
  refine wpS_bind (wpS_get ?_)
  refine wpS_bind (wpS_mono (wpS_forRange (I := fun x c st' => ∃ na nb out mg, c = (none, na, nb, out, mg) ∧ Gl a₀ k0 st st' ∧ MH r a.toList b.toList out.toList.reverse na nb ∧ 1 ≤ na ∧ 2 ≤ nb ∧ na < a.size ∧ nb ≤ b.size ∧ na + nb + x + 1 ≤ a.size + b.size)
    (Q := fun c st' => ∃ res rest, c = (some res, rest) ∧ Gl a₀ k0 st st' ∧ Mg r a.toList b.toList res.toList) ?_ ?_ ⟨_, _, _, _, rfl, Gl.refl hB, mh0, by omega, by omega, by omega, by omega, by omega⟩) ?_)
  rotate_left
  · rintro c st' ⟨na, nb, out, mg, rfl, hG, hM, g1, g2, g3, g4, g5⟩
    omega
  · rintro c st' ⟨res, rest, rfl, hG, hM⟩
    exact wpS_pure (h res st' hM hG)
  rintro x c st1 _ _ ⟨na, nb, out, mg, rfl, hG, hM, g1, g2, g3, g4, g5⟩
  dsimp only
  refine wpS_bind (wpS_mono (wpS_forRange (I := fun y c st' => ∃ na1 nb1 out1 ac bc, c = (none, na1, nb1, out1, ac, bc) ∧ Gl a₀ k0 st st' ∧ MH r a.toList b.toList out1.toList.reverse na1 nb1 ∧ 1 ≤ na1 ∧ 2 ≤ nb1 ∧ na1 < a.size ∧ nb1 ≤ b.size ∧ na1 + nb1 + y ≤ na + nb)
    (Q := fun c st' => (∃ na1 nb1 out1 ac bc, c = (none, na1, nb1, out1, ac, bc) ∧ Gl a₀ k0 st st' ∧ MH r a.toList b.toList out1.toList.reverse na1 nb1 ∧ 1 ≤ na1 ∧ 2 ≤ nb1 ∧ na1 < a.size ∧ nb1 ≤ b.size ∧ na1 + nb1 + 1 ≤ na + nb) ∨ ∃ res rest, c = (some res, rest) ∧ Gl a₀ k0 st st' ∧ Mg r a.toList b.toList res.toList) ?_ ?_ ⟨_, _, _, _, _, rfl, hG, hM, g1, g2, g3, g4, by omega⟩) ?_)
  · rintro y c st2 _ _ ⟨na1, nb1, out1, ac, bc, rfl, hG1, hM1, q1, q2, q3, q4, q5⟩
    obtain ⟨n, rfl⟩ : ∃ n, na1 = n + 1 := ⟨na1 - 1, by omega⟩
    obtain ⟨m, rfl⟩ : ∃ m, nb1 = m + 1 := ⟨nb1 - 1, by omega⟩
    obtain ⟨u, hu0, hu1, hu2, hu3⟩ := get_last (a := b) (n := m) (by omega)
    obtain ⟨v, hv0, hv1, hv2, hv3⟩ := get_last (a := a) (n := n) (by omega)
    dsimp only
    simp only [Nat.add_sub_cancel]
    refine wpS_bind (wpS_elem hu0 (wpS_bind (wpS_elem hv0 (wpS_bind (wpS_lt hc hG1.base (hb u hu1) (ha v hv1) ?_)))))
    dsimp only
    have sva := (List.pairwise_append.mp hM1.sa).1
    have svb := (List.pairwise_append.mp hM1.sb).1
    rw [hv3] at sva
    rw [hu3] at svb
    by_cases hlt : r u < r v
    · rw [decide_eq_true hlt, if_pos rfl]
      refine wpS_bind (wpS_elem hv0 ?_)
      have hM2 := pA hM1 hv2 (fun z hz => by
        rw [hu3] at hz
        rcases List.mem_append.mp hz with hz | hz
        · exact Nat.le_trans ((List.pairwise_append.mp svb).2.2 z hz u (by simp)) (Nat.le_of_lt hlt)
        · rw [List.mem_singleton.mp hz]; omega)
      by_cases e1 : n = 0
      · rw [if_pos (by simpa using e1)]
        exact wpS_pure (.inr ⟨_, _, rfl, hG1, fin1 hM2 e1⟩)
      · rw [if_neg (by simpa using e1)]
        by_cases e2 : ac + 1 ≥ mg
        · rw [if_pos e2]
          exact wpS_pure (.inl ⟨_, _, _, _, _, rfl, hG1, hM2, by omega, by omega, by omega, by omega, by omega⟩)
        · rw [if_neg e2]
          exact wpS_pure ⟨_, _, _, _, _, rfl, hG1, hM2, by omega, by omega, by omega, by omega, by omega⟩
    · rw [decide_eq_false hlt, if_neg (by decide)]
      refine wpS_bind (wpS_elem hu0 ?_)
      have hM2 := pB hM1 hu2 (fun z hz => by
        rw [hv3] at hz
        rcases List.mem_append.mp hz with hz | hz
        · have := (List.pairwise_append.mp sva).2.2 z hz v (by simp)
          unfold le at this
          omega
        · rw [List.mem_singleton.mp hz]; omega)
      by_cases e1 : m = 1
      · rw [if_pos (by simpa using e1)]
        exact wpS_pure (.inr ⟨_, _, rfl, hG1, fin3 hM2 e1⟩)
      · rw [if_neg (by simpa using e1)]
        by_cases e2 : bc + 1 ≥ mg
        · rw [if_pos e2]
          exact wpS_pure (.inl ⟨_, _, _, _, _, rfl, hG1, hM2, by omega, by omega, by omega, by omega, by omega⟩)
        · rw [if_neg e2]
          exact wpS_pure ⟨_, _, _, _, _, rfl, hG1, hM2, by omega, by omega, by omega, by omega, by omega⟩
  · rintro c st' ⟨na1, nb1, out1, ac, bc, rfl, hG1, hM1, q1, q2, q3, q4, q5⟩
    omega
  rintro c st2 (⟨na1, nb1, out1, ac, bc, rfl, hG1, hM1, q1, q2, q3, q4, q5⟩ | ⟨res, rest, rfl, hG1, hM1⟩)
  rotate_left
  · dsimp only
    exact wpS_pure ⟨_, _, rfl, hG1, hM1⟩
  dsimp only
  refine wpS_bind (wpS_lift (wpAny_rule ⟨rfl, ?_⟩))
  refine wpS_bind (wpS_mono (wpS_forRange (I := fun y c st' => ∃ na2 nb2 out2 mg ac bc, c = (none, na2, nb2, out2, mg, ac, bc) ∧ Gl a₀ k0 st st' ∧ MH r a.toList b.toList out2.toList.reverse na2 nb2 ∧ 1 ≤ na2 ∧ 2 ≤ nb2 ∧ na2 < a.size ∧ nb2 ≤ b.size ∧ na2 + nb2 + 1 ≤ na + nb)
    (Q := fun c st' => (∃ na2 nb2 out2 mg ac bc, c = (none, na2, nb2, out2, mg, ac, bc) ∧ Gl a₀ k0 st st' ∧ MH r a.toList b.toList out2.toList.reverse na2 nb2 ∧ 1 ≤ na2 ∧ 2 ≤ nb2 ∧ na2 < a.size ∧ nb2 ≤ b.size ∧ na2 + nb2 + 1 ≤ na + nb) ∨ ∃ res rest, c = (some res, rest) ∧ Gl a₀ k0 st st' ∧ Mg r a.toList b.toList res.toList) ?_ ?_ ⟨_, _, _, _, _, _, rfl, hG1, hM1, q1, q2, q3, q4, q5⟩) ?_)
  · rintro y c st3 _ _ ⟨na2, nb2, out2, mg2, ac2, bc2, rfl, hG2, hM2, w1, w2, w3, w4, w5⟩
    obtain ⟨m, rfl⟩ : ∃ m, nb2 = m + 1 := ⟨nb2 - 1, by omega⟩
    obtain ⟨u, hu0, hu1, hu2, hu3⟩ := get_last (a := b) (n := m) (by omega)
    have hG3 : ∀ g, Gl a₀ k0 st (SortSt.mk' (kindOf st3) (arrOf st3) (pendingOf st3) g (failedOf st3)) := fun g => ⟨⟨hG2.base.perm, hG2.base.kind, hG2.base.failed⟩, hG2.arr, hG2.pend⟩
    dsimp only
    simp only [Nat.add_sub_cancel]
    by_cases hmg : mg2 > 1
    case' pos => rw [if_pos hmg]
    case' neg => rw [if_neg hmg]
    all_goals
      refine wpS_bind (wpS_modify ?_)
      refine wpS_bind (wpS_elem hu0 (wpS_bind (wpS_gallopR (base := 0) (n := na2) (hint := na2 - 1) hc (hG3 _).base (hb u hu1) ha (by omega) (by omega) (by rw [List.drop_zero]; exact (List.pairwise_append.mp hM2.sa).1) fun k hk hk1 hk2 => ?_)))
      dsimp only
      rw [List.drop_zero] at hk1 hk2
      have svb := (List.pairwise_append.mp hM2.sb).1
      rw [hu3] at svb
      have hM3 := hM2.pushA (k := k) hk fun z hz c hc => by
        have e1 := hk2 c hc
        rw [hu3] at hz
        rcases List.mem_append.mp hz with hz | hz
        · exact Nat.le_trans ((List.pairwise_append.mp svb).2.2 z hz u (by simp)) (Nat.le_of_lt e1)
        · rw [List.mem_singleton.mp hz]; exact Nat.le_of_lt e1
      have eo : (out2 ++ (a.extract k na2).reverse).toList.reverse = (a.toList.take na2).drop k ++ out2.toList.reverse := by
        rw [Array.toList_append, List.reverse_append, Array.toList_reverse, List.reverse_reverse, ext_mid]
      rw [← eo] at hM3
      by_cases hk0 : na2 - k > 0
      case' pos =>
        rw [if_pos hk0]
        by_cases e1 : k = 0
        · rw [if_pos (by simpa using e1)]
          exact wpS_pure (.inr ⟨_, _, rfl, hG3 _, fin1 hM3 e1⟩)
        rw [if_neg (by simpa using e1)]
        have hi3 : 1 ≤ k ∧ k < a.size ∧ k + (m + 1) + 1 ≤ na + nb := by omega
        generalize out2 ++ (a.extract k na2).reverse = out3 at *
        generalize k = na3 at *
      case' neg =>
        rw [if_neg hk0]
        obtain rfl : k = na2 := by omega
        have hi3 : 1 ≤ k ∧ k < a.size ∧ k + (m + 1) + 1 ≤ na + nb := by omega
        have eo2 : out2 ++ (a.extract k k).reverse = out2 := Array.toList_inj.mp (by rw [Array.toList_append, Array.toList_reverse, ext_mid]; simp)
        rw [eo2] at hM3
        generalize out2 = out3 at *
        generalize k = na3 at *
      all_goals
        refine wpS_bind (wpS_elem hu0 ?_)
        have hM4 := pB hM3 hu2 (fun z hz => hk1 z hz)
        by_cases e3 : m = 1
        · rw [if_pos (by simpa using e3)]
          exact wpS_pure (.inr ⟨_, _, rfl, hG3 _, fin3 hM4 e3⟩)
        rw [if_neg (by simpa using e3)]
        obtain ⟨n, rfl⟩ : ∃ n, na3 = n + 1 := ⟨na3 - 1, by omega⟩
        obtain ⟨v, hv0, hv1, hv2, hv3⟩ := get_last (a := a) (n := n) (by omega)
        simp only [Nat.add_sub_cancel]
        refine wpS_bind (wpS_elem hv0 (wpS_bind (wpS_gallopL (base := 0) (n := m) (hint := m - 1) hc (hG3 _).base (ha v hv1) hb (by omega) (by omega) (by rw [List.drop_zero]; exact (List.pairwise_append.mp hM4.sb).1) fun k' hk' hk1' hk2' => ?_)))
        dsimp only
        rw [List.drop_zero] at hk1' hk2'
        have sva := (List.pairwise_append.mp hM4.sa).1
        rw [hv3] at sva
        have hM5 := hM4.pushB (k := k') hk' fun z hz c hc => by
          have e1 := hk2' c hc
          rw [hv3] at hz
          rcases List.mem_append.mp hz with hz | hz
          · exact Nat.le_trans ((List.pairwise_append.mp sva).2.2 z hz v (by simp)) e1
          · rw [List.mem_singleton.mp hz]; exact e1
        have eo' : (out3.push u ++ (b.extract k' m).reverse).toList.reverse = (b.toList.take m).drop k' ++ (out3.push u).toList.reverse := by
          rw [Array.toList_append, List.reverse_append, Array.toList_reverse, List.reverse_reverse, ext_mid]
        rw [← eo'] at hM5
        by_cases hk0' : m - k' > 0
        case' pos =>
          rw [if_pos hk0']
          by_cases e4 : k' = 1
          · rw [if_pos (by simpa using e4)]
            exact wpS_pure (.inr ⟨_, _, rfl, hG3 _, fin3 hM5 e4⟩)
          rw [if_neg (by simpa using e4)]
          by_cases e5 : k' = 0
          · rw [if_pos (by simpa using e5)]
            exact wpS_pure (.inr ⟨_, _, rfl, hG3 _, fin2 hM5 e5⟩)
          rw [if_neg (by simpa using e5)]
          have hi4 : 2 ≤ k' ∧ k' ≤ b.size ∧ n + k' + 1 ≤ na + nb := by omega
          generalize out3.push u ++ (b.extract k' m).reverse = out4 at *
          generalize k' = nb4 at *
        case' neg =>
          rw [if_neg hk0']
          obtain rfl : k' = m := by omega
          have hi4 : 2 ≤ k' ∧ k' ≤ b.size ∧ n + k' + 1 ≤ na + nb := by omega
          have eo2' : out3.push u ++ (b.extract k' k').reverse = out3.push u := Array.toList_inj.mp (by rw [Array.toList_append, Array.toList_reverse, ext_mid]; simp)
          rw [eo2'] at hM5
          generalize out3.push u = out4 at *
          generalize k' = nb4 at *
        all_goals
          refine wpS_bind (wpS_elem hv0 ?_)
          have hM6 := pA hM5 hv2 (fun z hz => Nat.le_of_lt (hk1' z hz))
          by_cases e6 : n = 0
          · rw [if_pos (by simpa using e6)]
            exact wpS_pure (.inr ⟨_, _, rfl, hG3 _, fin1 hM6 e6⟩)
          rw [if_neg (by simpa using e6)]
          split
          · exact wpS_pure (.inl ⟨_, _, _, _, _, _, rfl, hG3 _, hM6, by omega, by omega, by omega, by omega, by omega⟩)
          · exact wpS_pure ⟨_, _, _, _, _, _, rfl, hG3 _, hM6, by omega, by omega, by omega, by omega, by omega⟩
  · rintro c st' ⟨na2, nb2, out2, mg2, ac2, bc2, rfl, hG2, hM2, w1, w2, w3, w4, w5⟩
    exact .inl ⟨_, _, _, _, _, _, rfl, hG2, hM2, w1, w2, w3, w4, w5⟩
  · rintro c st3 (⟨na2, nb2, out2, mg2, ac2, bc2, rfl, hG2, hM2, w1, w2, w3, w4, w5⟩ | ⟨res, rest, rfl, hG2, hM2⟩)
    · dsimp only
      refine wpS_bind (wpS_modify (wpS_pure ⟨_, _, _, _, rfl, ⟨⟨hG2.base.perm, hG2.base.kind, hG2.base.failed⟩, hG2.arr, hG2.pend⟩, hM2, w1, w2, w3, w4, by omega⟩))
    · dsimp only
      exact wpS_pure ⟨_, _, rfl, hG2, hM2⟩
end TS
namespace TS
open PySem PyProof.Rows
variable {prog : Program} {w : World} {A : Around} {E : Value → Shared → Prop} {s : Shared} {a₀ : Array Keyed} {r : Keyed → Nat} {k0 : SortKind}
abbrev seg (l : List Keyed) (i n : Nat) : List Keyed := (l.drop i).take n
def Runs (r : Keyed → Nat) (l : List Keyed) : Nat → List (Nat × Nat × Nat) → Nat → Prop
  | b, [], lo => b = lo
  | b, (st, n, _) :: rest, lo => st = b ∧ 1 ≤ n ∧ Srt r (seg l b n) ∧ Runs r l (b + n) rest lo
theorem Runs.le {l : List Keyed} : ∀ {p : List (Nat × Nat × Nat)} {b lo : Nat}, Runs r l b p lo → b + p.length ≤ lo
  | [], _, _, h => by rw [Runs] at h; subst h; simp
  | (st, n, _) :: rest, b, lo, h => by
    rw [Runs] at h
    have := Runs.le h.2.2.2
    rw [List.length_cons]; omega
theorem Runs.same {l l' : List Keyed} : ∀ {p : List (Nat × Nat × Nat)} {b lo : Nat}, Runs r l b p lo → (∀ i n, b ≤ i → i + n ≤ lo → seg l' i n = seg l i n) → Runs r l' b p lo
  | [], _, _, h, _ => h
  | (st, n, _) :: rest, b, lo, h, e => by
    rw [Runs] at h ⊢
    have := Runs.le h.2.2.2
    exact ⟨h.1, h.2.1, by rw [e b n (Nat.le_refl _) (by omega)]; exact h.2.2.1, Runs.same h.2.2.2 fun i n' h1 h2 => e i n' (by omega) h2⟩
theorem Runs.snoc {l : List Keyed} : ∀ {p : List (Nat × Nat × Nat)} {b lo n pw : Nat}, Runs r l b p lo → 1 ≤ n → Srt r (seg l lo n) → Runs r l b (p ++ [(lo, n, pw)]) (lo + n)
  | [], b, lo, n, pw, h, h1, h2 => by
    rw [Runs] at h
    subst h
    exact ⟨rfl, h1, h2, rfl⟩
  | (st, m, _) :: rest, b, lo, n, pw, h, h1, h2 => by
    rw [Runs] at h
    exact ⟨h.1, h.2.1, h.2.2.1, Runs.snoc h.2.2.2 h1 h2⟩
theorem Runs.merge {l l' : List Keyed} : ∀ {pre : List (Nat × Nat × Nat)} {b lo sa na pa sb nb pb : Nat} {post : List (Nat × Nat × Nat)}, Runs r l b (pre ++ (sa, na, pa) :: (sb, nb, pb) :: post) lo →
    (∀ i n, i + n ≤ sa → seg l' i n = seg l i n) → (∀ i n, sa + na + nb ≤ i → seg l' i n = seg l i n) → Srt r (seg l' sa (na + nb)) → Runs r l' b (pre ++ (sa, na + nb, pa) :: post) lo
  | [], b, lo, sa, na, pa, sb, nb, pb, post, h, h1, h2, h3 => by
    rw [List.nil_append, Runs, Runs] at h
    obtain ⟨rfl, g1, g2, rfl, g3, g4, g5⟩ := h
    refine ⟨rfl, by omega, h3, ?_⟩
    rw [Nat.add_assoc] at g5
    exact g5.same fun i n q1 q2 => h2 i n (by omega)
  | (st, n, _) :: rest, b, lo, sa, na, pa, sb, nb, pb, post, h, h1, h2, h3 => by
    rw [List.cons_append, Runs] at h
    obtain ⟨rfl, g1, g2, g3⟩ := h
    have hsa : st + n ≤ sa := by
      have : ∀ {pre : List (Nat × Nat × Nat)} {b : Nat}, Runs r l b (pre ++ (sa, na, pa) :: (sb, nb, pb) :: post) lo → b ≤ sa := by
        intro pre
        induction pre with
        | nil => intro b h; rw [List.nil_append, Runs] at h; omega
        | cons x r' ih => intro b h; obtain ⟨x1, x2, x3⟩ := x; rw [List.cons_append, Runs] at h; have := ih h.2.2.2; omega
      exact this g3
    refine ⟨rfl, g1, by rw [h1 st n hsa]; exact g2, Runs.merge g3 h1 h2 h3⟩
theorem Runs.at {l : List Keyed} : ∀ {pre : List (Nat × Nat × Nat)} {b lo sa na pa sb nb pb : Nat} {post : List (Nat × Nat × Nat)}, Runs r l b (pre ++ (sa, na, pa) :: (sb, nb, pb) :: post) lo →
    b ≤ sa ∧ sb = sa + na ∧ 1 ≤ na ∧ 1 ≤ nb ∧ sb + nb ≤ lo ∧ Srt r (seg l sa na) ∧ Srt r (seg l sb nb)
  | [], b, lo, sa, na, pa, sb, nb, pb, post, h => by
    rw [List.nil_append, Runs, Runs] at h
    obtain ⟨rfl, g1, g2, rfl, g3, g4, g5⟩ := h
    have := g5.le
    exact ⟨Nat.le_refl _, rfl, g1, g3, by omega, g2, g4⟩
  | (st, n, _) :: rest, b, lo, sa, na, pa, sb, nb, pb, post, h => by
    rw [List.cons_append, Runs] at h
    obtain ⟨rfl, g1, g2, g3⟩ := h
    obtain ⟨q1, q2⟩ := Runs.at g3
    exact ⟨by omega, q2⟩
theorem over_get (off : Nat) : ∀ (ms : List Keyed) (j : Nat) (xs : Array Keyed) (k : Nat), off + j + ms.length ≤ xs.size →
    ((ms.zipIdx j).foldl (fun a (p : Keyed × Nat) => a.setIfInBounds (off + p.2) p.1) xs)[k]? = if off + j ≤ k ∧ k < off + j + ms.length then ms[k - (off + j)]? else xs[k]?
  | [], j, xs, k, _ => by simp; omega
  | m :: ms, j, xs, k, h => by
    rw [List.zipIdx_cons, List.foldl_cons]
    rw [List.length_cons] at h
    rw [over_get off ms (j + 1) _ k (by rw [Array.size_setIfInBounds]; omega)]
    rw [List.length_cons]
    by_cases h1 : off + (j + 1) ≤ k ∧ k < off + (j + 1) + ms.length
    · rw [if_pos h1, if_pos (by omega)]
      obtain ⟨q, hq⟩ : ∃ q, k - (off + j) = q + 1 := ⟨k - (off + j) - 1, by omega⟩
      rw [hq, List.getElem?_cons_succ]
      congr 1
      omega
    · rw [if_neg h1, Array.getElem?_setIfInBounds]
      by_cases h2 : off + j = k
      · rw [if_pos h2, if_pos (by omega), if_pos (by omega)]
        have : k - (off + j) = 0 := by omega
        rw [this]; rfl
      · rw [if_neg h2, if_neg (by omega)]
theorem over_list (off : Nat) (ms : List Keyed) (xs : Array Keyed) (h : off + ms.length ≤ xs.size) : ((ms.zipIdx).foldl (fun a (p : Keyed × Nat) => a.setIfInBounds (off + p.2) p.1) xs).toList = xs.toList.take off ++ ms ++ xs.toList.drop (off + ms.length) := by
  have hl : xs.toList.length = xs.size := Array.length_toList
  refine List.ext_getElem? fun k => ?_
  rw [Array.getElem?_toList, over_get off ms 0 xs k (by omega), Nat.add_zero, List.append_assoc]
  by_cases h1 : k < off
  · rw [if_neg (by omega), List.getElem?_append_left (by rw [List.length_take]; omega), List.getElem?_take, if_pos h1, Array.getElem?_toList]
  · rw [List.getElem?_append_right (by rw [List.length_take]; omega), List.length_take, show min off xs.toList.length = off by omega]
    by_cases h2 : k < off + ms.length
    · rw [if_pos (by omega), List.getElem?_append_left (by omega)]
    · rw [if_neg (by omega), List.getElem?_append_right (by omega), List.getElem?_drop, Array.getElem?_toList]
      congr 1
      omega
theorem seg_low {l M : List Keyed} {i0 j0 : Nat} (hi : i0 ≤ l.length) (i n : Nat) (h : i + n ≤ i0) : seg (l.take i0 ++ M ++ l.drop j0) i n = seg l i n := by
  unfold seg
  rw [List.append_assoc, List.drop_append_of_le_length (by rw [List.length_take]; omega), List.take_append_of_le_length (by rw [List.length_drop, List.length_take]; omega), List.drop_take, List.take_take]
  congr 1
  omega
theorem seg_high {l M : List Keyed} {i0 j0 : Nat} (hi : i0 + M.length = j0) (hj : j0 ≤ l.length) (i n : Nat) (h : j0 ≤ i) : seg (l.take i0 ++ M ++ l.drop j0) i n = seg l i n := by
  unfold seg
  have e : (l.take i0 ++ M).length = j0 := by rw [List.length_append, List.length_take]; omega
  rw [List.drop_append, List.drop_eq_nil_of_le (by omega), List.nil_append, e, List.drop_drop]
  congr 2
  omega
theorem seg_mid {l M : List Keyed} {sa k i0 j0 t : Nat} (h0 : i0 = sa + k) (hi : i0 + M.length = j0) (hj : j0 + t ≤ l.length) : seg (l.take i0 ++ M ++ l.drop j0) sa (k + M.length + t) = seg l sa k ++ M ++ seg l j0 t := by
  unfold seg
  subst h0
  rw [List.append_assoc, List.drop_append_of_le_length (by rw [List.length_take]; omega), List.drop_take, show sa + k - sa = k by omega]
  have hP : ((l.drop sa).take k).length = k := by rw [List.length_take, List.length_drop]; omega
  generalize (l.drop sa).take k = P0 at *
  subst hP
  rw [Nat.add_assoc, List.take_length_add_append, List.take_length_add_append, List.append_assoc]
theorem seg_get {xs : Array Keyed} {i n : Nat} {p : Keyed} (h : xs[i]? = some p) (hn : 1 ≤ n) : ∃ t, seg xs.toList i n = p :: t := by
  have hp : xs.toList[i]? = some p := by rw [Array.getElem?_toList]; exact h
  obtain ⟨hl, e⟩ := List.getElem?_eq_some_iff.mp hp
  unfold seg
  rw [List.drop_eq_getElem_cons hl, e]
  obtain ⟨m, rfl⟩ : ∃ m, n = m + 1 := ⟨n - 1, by omega⟩
  exact ⟨_, List.take_succ_cons ..⟩
theorem wpS_set {M : Model} {σ : Type} {x : σ} {Q : PUnit → σ → Prop} {st : σ} (h : Q ⟨⟩ x) : wpS M A E s (set x : StateT σ Sem PUnit) Q st := by
  unfold wpS; rw [StateT.run_set]; exact wpAny_pure ⟨rfl, h⟩
theorem merged_srt {l M : List Keyed} {sa na nb k t : Nat} {key1 key2 : Keyed} (sA : Srt r (seg l sa na)) (sB : Srt r (seg l (sa + na) nb)) (hk : k ≤ na) (ht : t ≤ nb)
    (h1 : ∀ c ∈ seg l sa k, r c ≤ r key1) (h2 : ∀ c ∈ (seg l sa na).drop k, r c ≤ r key2) (h3 : ∀ c ∈ seg l (sa + na) nb, r key1 ≤ r c) (h4 : ∀ c ∈ (seg l (sa + na) nb).drop t, r key2 ≤ r c)
    (hM : Mg r ((seg l sa na).drop k) (seg l (sa + na) t) M) : Srt r (seg l sa k ++ M ++ seg l (sa + na + t) (nb - t)) := by
  have eA : seg l sa k ++ (seg l sa na).drop k = seg l sa na := by
    unfold seg
    have := List.take_append_drop k ((l.drop sa).take na)
    rwa [List.take_take, Nat.min_eq_left hk] at this
  have eT : (seg l (sa + na) nb).drop t = seg l (sa + na + t) (nb - t) := by
    unfold seg
    rw [List.drop_take, List.drop_drop]
  have eB : seg l (sa + na) t ++ (seg l (sa + na) nb).drop t = seg l (sa + na) nb := by
    unfold seg
    have := List.take_append_drop t ((l.drop (sa + na)).take nb)
    rwa [List.take_take, Nat.min_eq_left ht] at this
  rw [← eT]
  rw [← eA] at sA
  have h3' := h3
  rw [← eB] at sB h3'
  obtain ⟨a1, a2, a3⟩ := List.pairwise_append.mp sA
  obtain ⟨b1, b2, b3⟩ := List.pairwise_append.mp sB
  have mm : ∀ c ∈ M, c ∈ (seg l sa na).drop k ∨ c ∈ seg l (sa + na) t := fun c hc => List.mem_append.mp (hM.perm.mem_iff.mp hc)
  rw [List.append_assoc]
  refine List.pairwise_append.mpr ⟨a1, List.pairwise_append.mpr ⟨hM.srt, b2, fun x hx y hy => ?_⟩, fun x hx y hy => ?_⟩
  · rcases mm x hx with hx | hx
    · exact Nat.le_trans (h2 x hx) (h4 y hy)
    · exact b3 x hx y hy
  · have hx1 := h1 x hx
    rcases List.mem_append.mp hy with hy | hy
    · rcases mm y hy with hy | hy
      · exact a3 x hx y hy
      · exact Nat.le_trans hx1 (h3' y (List.mem_append_left _ hy))
    · exact Nat.le_trans hx1 (h3' y (List.mem_append_right _ hy))
theorem wpS_mergeAt (hc : CmpOk prog w A s a₀ r k0) {st : SortSt} (hB : SB a₀ k0 st) {i lo : Nat} {pre post : List (Nat × Nat × Nat)} {sa na pa sb nb pb : Nat} (hp : (pendingOf st).toList = pre ++ (sa, na, pa) :: (sb, nb, pb) :: post) (hi : pre.length = i) (hlo : lo ≤ a₀.size)
    (hR : Runs r (arrOf st).toList 0 (pendingOf st).toList lo) {Q : Bool → SortSt → Prop}
    (h : ∀ st', SB a₀ k0 st' → (pendingOf st').toList = pre ++ (sa, na + nb, pa) :: post → Runs r (arrOf st').toList 0 (pendingOf st').toList lo → (∀ i n, lo ≤ i → seg (arrOf st').toList i n = seg (arrOf st).toList i n) → Q true st') : wpS (model prog w) A E s (mergeAt' i) Q st := by
  have hRp := hR
  rw [hp] at hRp
  obtain ⟨_, rfl, z1, z2, z3, sA, sB⟩ := Runs.at hRp
  have hsz := hB.size
  have hl : (arrOf st).toList.length = a₀.size := by rw [Array.length_toList]; exact hsz
  have hpl : (pendingOf st).toList.length = (pendingOf st).size := Array.length_toList
  have e1 : (pendingOf st)[i]? = some (sa, na, pa) := by
    rw [← Array.getElem?_toList, hp, List.getElem?_append_right (by omega), hi, Nat.sub_self]; rfl
  have e2 : (pendingOf st)[i + 1]? = some (sa + na, nb, pb) := by
    rw [← Array.getElem?_toList, hp, List.getElem?_append_right (by omega), hi, show i + 1 - i = 1 by omega]; rfl
  have hpend : (((pendingOf st).setIfInBounds i (sa, na + nb, pa)).eraseIdxIfInBounds (i + 1)).toList = pre ++ (sa, na + nb, pa) :: post := by
    rw [Array.toList_eraseIdxIfInBounds, Array.toList_setIfInBounds, hp, ← hi]
    rw [List.set_append_right _ _ (Nat.le_refl _), Nat.sub_self, List.set_cons_zero, List.eraseIdx_append_of_length_le (by omega), show pre.length + 1 - pre.length = 1 by omega]
    rfl
  have hin : ∀ p ∈ (arrOf st).toList, p ∈ a₀.toList := fun p hp => hB.mem hp
  obtain ⟨kb, hkb⟩ : ∃ p, (arrOf st)[sa + na]? = some p := ⟨_, getElem?_pos _ (sa + na) (by omega)⟩
  unfold mergeAt'
  refine wpS_bind (wpS_get ?_)
  rw [e1, e2]
  dsimp only
  refine wpS_bind (wpS_set ?_)
  have hB1 : SB a₀ k0 (SortSt.mk' (kindOf st) (arrOf st) (((pendingOf st).setIfInBounds i (sa, na + nb, pa)).eraseIdxIfInBounds (i + 1)) (gallopOf st) (failedOf st)) := ⟨hB.perm, hB.kind, hB.failed⟩
  obtain ⟨tB, htB⟩ := seg_get (n := nb) hkb z2
  have kb_le : ∀ c ∈ seg (arrOf st).toList (sa + na) nb, r kb ≤ r c := fun c hcm => by
    rw [htB] at hcm sB
    rcases List.mem_cons.mp hcm with rfl | hcm
    · exact Nat.le_refl _
    · exact (List.pairwise_cons.mp sB).1 c hcm
  refine wpS_bind (wpS_elem hkb (wpS_bind (wpS_gallopR (base := sa) (n := na) (hint := 0) hc hB1 (hB.memAt hkb) hin (by omega) (by omega) sA fun k hk hk1 hk2 => ?_)))
  dsimp only
  by_cases hk0 : na - k = 0
  · rw [if_pos (by simpa using hk0)]
    obtain rfl : k = na := by omega
    refine wpS_pure (h _ hB1 hpend ?_ fun _ _ _ => rfl)
    show Runs r (arrOf st).toList 0 (((pendingOf st).setIfInBounds i (sa, k + nb, pa)).eraseIdxIfInBounds (i + 1)).toList lo
    rw [hpend]
    refine Runs.merge hRp (fun _ _ _ => rfl) (fun _ _ _ => rfl) ?_
    have e : seg (arrOf st).toList sa (k + nb) = seg (arrOf st).toList sa k ++ seg (arrOf st).toList (sa + k) nb := by
      unfold seg
      rw [List.take_add, List.drop_drop]
    rw [e]
    exact List.pairwise_append.mpr ⟨sA, sB, fun x hx y hy => Nat.le_trans (hk1 x hx) (kb_le y hy)⟩
  rw [if_neg (by simpa using hk0)]
  obtain ⟨ka, hka⟩ : ∃ p, (arrOf st)[sa + k + (na - k) - 1]? = some p := ⟨_, getElem?_pos _ (sa + k + (na - k) - 1) (by omega)⟩
  refine wpS_bind (wpS_elem hka (wpS_bind (wpS_gallopL (base := sa + na) (n := nb) (hint := nb - 1) hc hB1 (hB.memAt hka) hin (by omega) (by omega) sB fun t ht ht1 ht2 => ?_)))
  dsimp only
  have ka_ge : ∀ c ∈ (seg (arrOf st).toList sa na).drop k, r c ≤ r ka := fun c hcm => by
    have hkl : (seg (arrOf st).toList sa na)[na - 1]? = some ka := by
      unfold seg
      rw [List.getElem?_take, if_pos (by omega), List.getElem?_drop, Array.getElem?_toList]
      rw [← hka]; congr 1; omega
    obtain ⟨j, hj⟩ := List.mem_iff_getElem?.mp hcm
    rw [List.getElem?_drop] at hj
    have hjl := (List.getElem?_eq_some_iff.mp hj).1
    have hlen : (seg (arrOf st).toList sa na).length ≤ na := by unfold seg; rw [List.length_take]; omega
    by_cases hje : k + j = na - 1
    · rw [hje, hkl] at hj; cases hj; exact Nat.le_refl _
    · obtain ⟨q1, q2⟩ := List.getElem?_eq_some_iff.mp hkl
      obtain ⟨q3, q4⟩ := List.getElem?_eq_some_iff.mp hj
      have := List.pairwise_iff_getElem.mp sA (k + j) (na - 1) q3 q1 (by omega)
      rw [q2, q4] at this
      exact this
  by_cases ht0 : t = 0
  · rw [if_pos (by simpa using ht0)]
    subst ht0
    refine wpS_pure (h _ hB1 hpend ?_ fun _ _ _ => rfl)
    show Runs r (arrOf st).toList 0 (((pendingOf st).setIfInBounds i (sa, na + nb, pa)).eraseIdxIfInBounds (i + 1)).toList lo
    rw [hpend]
    refine Runs.merge hRp (fun _ _ _ => rfl) (fun _ _ _ => rfl) ?_
    have e : seg (arrOf st).toList sa (na + nb) = seg (arrOf st).toList sa na ++ seg (arrOf st).toList (sa + na) nb := by
      unfold seg
      rw [List.take_add, List.drop_drop]
    rw [e]
    rw [List.drop_zero] at ht2
    have eA : seg (arrOf st).toList sa k ++ (seg (arrOf st).toList sa na).drop k = seg (arrOf st).toList sa na := by
      unfold seg
      have := List.take_append_drop k (((arrOf st).toList.drop sa).take na)
      rwa [List.take_take, Nat.min_eq_left hk] at this
    refine List.pairwise_append.mpr ⟨sA, sB, fun x hx y hy => ?_⟩
    rw [← eA] at hx
    rcases List.mem_append.mp hx with hx | hx
    · exact Nat.le_trans (hk1 x hx) (kb_le y hy)
    · exact Nat.le_trans (ka_ge x hx) (ht2 y hy)
  rw [if_neg (by simpa using ht0)]
  -- the two parts
  have ex : ((arrOf st).extract (sa + k) (sa + na)).toList = (seg (arrOf st).toList sa na).drop k := by
    rw [ext_mid]
    unfold seg
    rw [List.drop_take, List.drop_take, List.drop_drop]
    congr 1
    omega
  have ey : ((arrOf st).extract (sa + na) (sa + na + t)).toList = seg (arrOf st).toList (sa + na) t := ext_take _ _ _
  have sx : Srt r ((arrOf st).extract (sa + k) (sa + na)).toList := by rw [ex]; exact sA.sublist (List.drop_sublist _ _)
  have sy : Srt r ((arrOf st).extract (sa + na) (sa + na + t)).toList := by
    rw [ey]
    have : seg (arrOf st).toList (sa + na) t = (seg (arrOf st).toList (sa + na) nb).take t := by unfold seg; rw [List.take_take, Nat.min_eq_left ht]
    rw [this]; exact sB.sublist (List.take_sublist _ _)
  have lx : ((arrOf st).extract (sa + k) (sa + na)).toList.length = na - k := by rw [ex]; unfold seg; rw [List.length_drop, List.length_take, List.length_drop]; omega
  have ly : ((arrOf st).extract (sa + na) (sa + na + t)).toList.length = t := by rw [ey]; unfold seg; rw [List.length_take, List.length_drop]; omega
  have zx : 1 ≤ ((arrOf st).extract (sa + k) (sa + na)).size := by rw [← Array.length_toList, lx]; omega
  have zy : 1 ≤ ((arrOf st).extract (sa + na) (sa + na + t)).size := by rw [← Array.length_toList, ly]; omega
  have inx : ∀ p ∈ ((arrOf st).extract (sa + k) (sa + na)).toList, p ∈ a₀.toList := fun p hpm => by
    rw [ex] at hpm
    exact hin p (List.mem_of_mem_drop (List.mem_of_mem_take (List.mem_of_mem_drop hpm)))
  have iny : ∀ p ∈ ((arrOf st).extract (sa + na) (sa + na + t)).toList, p ∈ a₀.toList := fun p hpm => by
    rw [ey] at hpm
    exact hin p (List.mem_of_mem_drop (List.mem_of_mem_take hpm))
  have yfirst : ∀ y, ((arrOf st).extract (sa + na) (sa + na + t)).toList[0]? = some y → y = kb := fun y hy => by
    rw [ey] at hy
    unfold seg at hy
    rw [List.getElem?_take, if_pos (by omega), List.getElem?_drop, Nat.add_zero, Array.getElem?_toList, hkb] at hy
    cases hy; rfl
  have finish : ∀ (out : Array Keyed) (st' : SortSt), Mg r ((arrOf st).extract (sa + k) (sa + na)).toList ((arrOf st).extract (sa + na) (sa + na + t)).toList out.toList →
      Gl a₀ k0 (SortSt.mk' (kindOf st) (arrOf st) (((pendingOf st).setIfInBounds i (sa, na + nb, pa)).eraseIdxIfInBounds (i + 1)) (gallopOf st) (failedOf st)) st' →
      Q (failedOf st').isNone (SortSt.mk' (kindOf st') (out.toList.zipIdx.foldl (fun a (p : Keyed × Nat) => a.setIfInBounds (sa + k + p.2) p.1) (arrOf st')) (pendingOf st') (gallopOf st') (failedOf st')) := by
    intro out st' hM hG
    have harr : arrOf st' = arrOf st := hG.arr
    have hpd : (pendingOf st').toList = pre ++ (sa, na + nb, pa) :: post := by rw [hG.pend]; exact hpend
    have hlM : out.toList.length = na - k + t := by rw [hM.perm.length_eq, List.length_append, lx, ly]
    have hfn : (failedOf st').isNone = true := by rw [hG.base.failed]; rfl
    rw [hfn]
    have hnew : (out.toList.zipIdx.foldl (fun a (p : Keyed × Nat) => a.setIfInBounds (sa + k + p.2) p.1) (arrOf st')).toList = (arrOf st).toList.take (sa + k) ++ out.toList ++ (arrOf st).toList.drop (sa + na + t) := by
      rw [harr, over_list _ _ _ (by omega), hlM]
      congr 2
      omega
    refine h _ ⟨?_, hG.base.kind, hG.base.failed⟩ hpd ?_ fun j n hj => ?_
    · refine Array.Perm.trans ?_ hB.perm
      rw [Array.perm_iff_toList_perm]
      show (out.toList.zipIdx.foldl (fun a (p : Keyed × Nat) => a.setIfInBounds (sa + k + p.2) p.1) (arrOf st')).toList.Perm (arrOf st).toList
      rw [hnew]
      have hl3 : (arrOf st).toList = (arrOf st).toList.take (sa + k) ++ (((arrOf st).extract (sa + k) (sa + na)).toList ++ ((arrOf st).extract (sa + na) (sa + na + t)).toList) ++ (arrOf st).toList.drop (sa + na + t) := by
        rw [ext_mid, ext_mid, ← List.append_assoc, take_split _ (by omega), take_split _ (by omega), List.take_append_drop]
      conv => rhs; rw [hl3]
      exact ((hM.perm.append_left _).append_right _)
    · show Runs r (out.toList.zipIdx.foldl (fun a (p : Keyed × Nat) => a.setIfInBounds (sa + k + p.2) p.1) (arrOf st')).toList 0 (pendingOf st').toList lo
      rw [hnew, hpd]
      refine Runs.merge hRp (fun j n hj => ?_) (fun j n hj => ?_) ?_
      · exact seg_low (by omega) j n (by omega)
      · exact seg_high (by omega) (by omega) j n (by omega)
      · have := seg_mid (l := (arrOf st).toList) (M := out.toList) (sa := sa) (k := k) (i0 := sa + k) (j0 := sa + na + t) (t := nb - t) rfl (by omega) (by omega)
        rw [show k + out.toList.length + (nb - t) = na + nb by omega] at this
        rw [this]
        refine merged_srt sA sB hk ht hk1 ka_ge kb_le ht2 ?_
        rw [← ex, ← ey]
        exact hM
    · show seg (out.toList.zipIdx.foldl (fun a (p : Keyed × Nat) => a.setIfInBounds (sa + k + p.2) p.1) (arrOf st')).toList j n = _
      rw [hnew]
      exact seg_high (by omega) (by omega) j n (by omega)
  by_cases hle : na - k ≤ t
  · rw [if_pos hle]
    refine wpS_bind (wpS_mergeLo hc hB1 inx iny sx sy zx zy ?_ ?_ fun out st' hM hG => wpS_bind (wpS_modify (wpS_bind (wpS_get (wpS_pure (finish out st' hM hG))))))
    · intro x y hx hy
      have hyk := yfirst y (by rw [Array.getElem?_toList]; exact hy)
      subst hyk
      have : x ∈ ((arrOf st).extract (sa + k) (sa + na)).toList := Array.mem_toList_iff.mpr (Array.mem_of_getElem? hx)
      rw [ex] at this
      exact Nat.le_of_lt (hk2 x this)
    · intro x hx y hy
      rw [ey] at hy
      have hxk : x = ka := by
        rw [lx, ext_mid, List.getElem?_drop, List.getElem?_take] at hx
        rw [if_pos (by omega), Array.getElem?_toList] at hx
        rw [show sa + k + (na - k - 1) = sa + k + (na - k) - 1 by omega, hka] at hx
        cases hx; rfl
      subst hxk
      exact Nat.le_of_lt (ht1 y hy)
  · rw [if_neg hle]
    refine wpS_bind (wpS_mergeHi hc hB1 inx iny sx sy zx zy ?_ ?_ fun out st' hM hG => wpS_bind (wpS_modify (wpS_bind (wpS_get (wpS_pure (finish out st' hM hG))))))
    · intro y hy x hx
      obtain ⟨j, hj⟩ := List.mem_iff_getElem?.mp hy
      rw [List.getElem?_take] at hj
      split at hj
      · rename_i hj1
        obtain rfl : j = 0 := by omega
        have := yfirst y hj
        subst this
        rw [ex] at hx
        exact Nat.le_of_lt (hk2 x hx)
      · cases hj
    · intro x hx y hy
      rw [ey] at hy
      obtain ⟨j, hj⟩ := List.mem_iff_getElem?.mp hx
      rw [List.getElem?_drop, ← Array.length_toList, lx] at hj
      have hjl := (List.getElem?_eq_some_iff.mp hj).1
      rw [lx] at hjl
      obtain rfl : j = 0 := by omega
      have hxk : x = ka := by
        rw [Nat.add_zero, ext_mid, List.getElem?_drop, List.getElem?_take, if_pos (by omega), Array.getElem?_toList] at hj
        rw [show sa + k + (na - k - 1) = sa + k + (na - k) - 1 by omega, hka] at hj
        cases hj; rfl
      subst hxk
      exact Nat.le_of_lt (ht1 y hy)
end TS
namespace TS
open PySem PyProof.Rows
variable {prog : Program} {w : World} {A : Around} {E : Value → Shared → Prop} {s : Shared} {a₀ : Array Keyed} {r : Keyed → Nat} {k0 : SortKind}
theorem srt_of_up {xs : Array Keyed} {i n : Nat} (h : Up r xs i (i + n)) : Srt r (seg xs.toList i n) := by
  rw [Srt, List.pairwise_iff_getElem]
  intro j k hj hk hjk
  have e1 : (seg xs.toList i n)[j]? = some (seg xs.toList i n)[j] := List.getElem?_eq_getElem hj
  have e2 : (seg xs.toList i n)[k]? = some (seg xs.toList i n)[k] := List.getElem?_eq_getElem hk
  have hkn : k < n := by unfold seg at hk; rw [List.length_take] at hk; omega
  have f1 : xs.toList[i + j]? = some (seg xs.toList i n)[j] := by
    rw [← e1]; unfold seg; rw [List.getElem?_take, if_pos (by omega), List.getElem?_drop]
  have f2 : xs.toList[i + k]? = some (seg xs.toList i n)[k] := by
    rw [← e2]; unfold seg; rw [List.getElem?_take, if_pos (by omega), List.getElem?_drop]
  have := h (i + j) (i + k) (by omega) (by omega) (by omega)
  rw [Rk_list f1, Rk_list f2] at this
  exact this
theorem seg_same {xs ys : Array Keyed} {lo : Nat} (h : ∀ k, k < lo → ys[k]? = xs[k]?) (i n : Nat) (hi : i + n ≤ lo) : seg ys.toList i n = seg xs.toList i n := by
  refine List.ext_getElem? fun k => ?_
  unfold seg
  rw [List.getElem?_take, List.getElem?_take]
  split
  · rw [List.getElem?_drop, List.getElem?_drop, Array.getElem?_toList, Array.getElem?_toList]
    exact h _ (by omega)
  · rfl
theorem two_of {p : List (Nat × Nat × Nat)} {i : Nat} (h : i + 1 < p.length) : ∃ pre sa na pa sb nb pb post, p = pre ++ (sa, na, pa) :: (sb, nb, pb) :: post ∧ pre.length = i := by
  refine ⟨p.take i, p[i].1, p[i].2.1, p[i].2.2, p[i + 1].1, p[i + 1].2.1, p[i + 1].2.2, p.drop (i + 2), ?_, by rw [List.length_take]; omega⟩
  have e1 := List.drop_eq_getElem_cons (show i < p.length by omega)
  have e2 := List.drop_eq_getElem_cons h
  show p = p.take i ++ p[i] :: p[i + 1] :: p.drop (i + 2)
  rw [← e2, ← e1, List.take_append_drop]
theorem Runs.last {l : List Keyed} : ∀ {p : List (Nat × Nat × Nat)} {b lo : Nat} {f : Nat × Nat × Nat → Nat × Nat × Nat}, Runs r l b p lo → (∀ x, (f x).1 = x.1 ∧ (f x).2.1 = x.2.1) → ∀ i, Runs r l b (p.modify i f) lo
  | [], _, _, _, h, _, i => by cases i <;> simpa using h
  | (st, n, q) :: rest, b, lo, f, h, hf, 0 => by
    rw [Runs] at h
    rw [List.modify_zero_cons]
    obtain ⟨e1, e2⟩ := hf (st, n, q)
    generalize f (st, n, q) = y at *
    obtain ⟨y1, y2, y3⟩ := y
    simp only at e1 e2
    subst e1; subst e2
    exact h
  | (st, n, q) :: rest, b, lo, f, h, hf, i + 1 => by
    rw [Runs] at h
    rw [List.modify_succ_cons]
    exact ⟨h.1, h.2.1, h.2.2.1, Runs.last h.2.2.2 hf i⟩
theorem wpS_sortRuns (hc : CmpOk prog w A s a₀ r k0) {st : SortSt} (hB : SB a₀ k0 st) (hp : pendingOf st = #[]) {Q : Unit → SortSt → Prop} (h : ∀ st', SB a₀ k0 st' → Srt r (arrOf st').toList → Q () st') : wpS (model prog w) A E s sortRuns' Q st := by
  have hsz := hB.size
  unfold sortRuns'
  refine wpS_bind (wpS_get ?_)
  dsimp only
  rw [show (arrOf st).size = a₀.size from hsz]
  refine wpS_bind (wpS_mono (wpS_forRange (I := fun x c st' => ∃ lo, c = (none, lo) ∧ SB a₀ k0 st' ∧ lo ≤ a₀.size ∧ (x ≤ lo ∨ lo = a₀.size) ∧ Runs r (arrOf st').toList 0 (pendingOf st').toList lo)
    (Q := fun c st' => c = (none, a₀.size) ∧ SB a₀ k0 st' ∧ Runs r (arrOf st').toList 0 (pendingOf st').toList a₀.size) ?_ ?_ ⟨0, rfl, hB, by omega, .inl (by omega), by rw [hp]; rfl⟩) ?_)
  rotate_left
  · rintro c st' ⟨lo, rfl, hB', h1, h2, hR⟩
    obtain rfl : lo = a₀.size := by omega
    exact ⟨rfl, hB', hR⟩
  · rintro c st' ⟨rfl, hB', hR⟩
    dsimp only
    refine wpS_bind (wpS_mono (wpS_forRange (I := fun x c st' => c = (none, ()) ∧ SB a₀ k0 st' ∧ Runs r (arrOf st').toList 0 (pendingOf st').toList a₀.size ∧ ((pendingOf st').size ≤ 1 ∨ (pendingOf st').size + x ≤ a₀.size))
      (Q := fun c st' => c = (none, ()) ∧ SB a₀ k0 st' ∧ Runs r (arrOf st').toList 0 (pendingOf st').toList a₀.size ∧ (pendingOf st').size ≤ 1) ?_ ?_ ⟨rfl, hB', hR, .inr (by have := hR.le; rw [Array.length_toList] at this; omega)⟩) ?_)
    · rintro x c st1 _ _ ⟨rfl, hB1, hR1, hps⟩
      refine wpS_bind (wpS_get ?_)
      by_cases hle : (pendingOf st1).size ≤ 1
      · rw [if_pos hle]
        exact wpS_pure ⟨rfl, hB1, hR1, hle⟩
      rw [if_neg hle]
      have hpl : (pendingOf st1).toList.length = (pendingOf st1).size := Array.length_toList
      have go : ∀ i, i + 1 < (pendingOf st1).size → wpS (model prog w) A E s (mergeAt' i) (fun b st2 => b = true ∧ SB a₀ k0 st2 ∧ Runs r (arrOf st2).toList 0 (pendingOf st2).toList a₀.size ∧ (pendingOf st2).size + 1 = (pendingOf st1).size) st1 := by
        intro i hi
        obtain ⟨pre, sa, na, pa, sb, nb, pb, post, e, hpre⟩ := two_of (p := (pendingOf st1).toList) (i := i) (by omega)
        refine wpS_mergeAt hc hB1 e hpre (Nat.le_refl _) hR1 fun st2 hB2 hp2 hR2 _ => ⟨rfl, hB2, hR2, ?_⟩
        have e2 : (pendingOf st2).size = (pre ++ (sa, na + nb, pa) :: post).length := by rw [← hp2, Array.length_toList]
        rw [e2, ← hpl, e]
        simp only [List.length_append, List.length_cons]
        omega
      have ix : ∀ (c : Prop) [Decidable c], (if c then (pendingOf st1).size - 2 - 1 else (pendingOf st1).size - 2) + 1 < (pendingOf st1).size := by
        intro c _
        split <;> omega
      refine wpS_bind (wpS_mono (go _ ?_) ?_)
      · split <;> exact ix _
      · rintro b st2 ⟨rfl, hB2, hR2, hs2⟩
        rw [if_neg (by decide)]
        exact wpS_pure ⟨rfl, hB2, hR2, by omega⟩
    · rintro c st1 ⟨rfl, hB1, hR1, hps⟩
      refine ⟨rfl, hB1, hR1, ?_⟩
      omega
    · rintro c st1 ⟨rfl, hB1, hR1, hps⟩
      refine wpS_pure (h st1 hB1 ?_)
      have hl : (arrOf st1).toList.length = a₀.size := by rw [Array.length_toList]; exact hB1.size
      have hpl : (pendingOf st1).toList.length = (pendingOf st1).size := Array.length_toList
      cases hq : (pendingOf st1).toList with
      | nil =>
        rw [hq, Runs] at hR1
        have : (arrOf st1).toList = [] := List.eq_nil_of_length_eq_zero (by omega)
        rw [this]; exact List.Pairwise.nil
      | cons q rest =>
        have : rest = [] := by
          rw [hq, List.length_cons] at hpl
          exact List.eq_nil_of_length_eq_zero (by omega)
        subst this
        obtain ⟨q1, q2, q3⟩ := q
        rw [hq, Runs, Runs] at hR1
        obtain ⟨rfl, _, g1, g2⟩ := hR1
        unfold seg at g1
        rw [List.drop_zero, List.take_of_length_le (by omega)] at g1
        exact g1
  rintro x c st1 _ hx ⟨lo, rfl, hB1, h1, h2, hR1⟩
  dsimp only
  by_cases hge : lo ≥ a₀.size
  · rw [if_pos hge]
    obtain rfl : lo = a₀.size := by omega
    exact wpS_pure ⟨rfl, hB1, hR1⟩
  rw [if_neg hge]
  refine wpS_bind (wpS_countRun hc hB1 (lo := lo) (nrem := a₀.size - lo) (by omega) (by omega) fun m st2 hm1 hm2 hK2 hU2 => ?_)
  dsimp only
  have hR2 : Runs r (arrOf st2).toList 0 (pendingOf st2).toList lo := by
    rw [hK2.pend]
    exact hR1.same fun i n _ hi => seg_same hK2.low i n hi
  generalize (sortPriv% PySem.Builtin.minRun) a₀.size a₀.size 0 = mr
  by_cases hmr : m < mr
  case' pos =>
    rw [if_pos hmr]
    refine wpS_bind (wpS_lift (wpAny_rule ⟨rfl, ?_⟩))
    refine wpS_bind (wpS_binarySort hc hK2.base (lo := lo) (n := min (a₀.size - lo) mr) (ok := m) (by omega) (by omega) hU2 fun st3 hK3 hU3 => ?_)
    rw [if_neg (by decide)]
    have hn1 : 1 ≤ min (a₀.size - lo) mr := by omega
    have hn2 : lo + min (a₀.size - lo) mr ≤ a₀.size := by omega
    have hS3 := srt_of_up hU3
    have hB3 := hK3.base
    have hR3 : Runs r (arrOf st3).toList 0 (pendingOf st3).toList lo := by
      rw [hK3.pend]
      exact hR2.same fun i n _ hi => seg_same hK3.low i n hi
    clear hU3 hK3
    generalize min (a₀.size - lo) mr = n at *
  case' neg =>
    rw [if_neg hmr]
    have hn1 : 1 ≤ m := hm1
    have hn2 : lo + m ≤ a₀.size := by omega
    have hS3 := srt_of_up hU2
    have hB3 := hK2.base
    have hR3 := hR2
    clear hU2 hK2 hR2
    generalize m = n at *
    generalize st2 = st3 at *
  all_goals
    have fin : ∀ st4, SB a₀ k0 st4 → Runs r (arrOf st4).toList 0 (pendingOf st4).toList lo → Srt r (seg (arrOf st4).toList lo n) → ∃ lo', ((none : Option Unit), lo + n) = (none, lo') ∧ SB a₀ k0 (setPending st4 ((pendingOf st4).push (lo, n, 0))) ∧ lo' ≤ a₀.size ∧ (x + 1 ≤ lo' ∨ lo' = a₀.size) ∧ Runs r (arrOf st4).toList 0 ((pendingOf st4).push (lo, n, 0)).toList lo' := by
      intro st4 hB4 hR4 hS4
      refine ⟨lo + n, rfl, ⟨hB4.perm, hB4.kind, hB4.failed⟩, hn2, .inl (by omega), ?_⟩
      rw [Array.toList_push]
      exact hR4.snoc hn1 hS4
    refine wpS_bind (wpS_get ?_)
    cases hbk : (pendingOf st3).back? with
    | none =>
      dsimp only
      exact wpS_bind (wpS_modify (wpS_pure (fin st3 hB3 hR3 hS3)))
    | some q =>
      obtain ⟨s1, n1, p1⟩ := q
      dsimp only
      refine wpS_bind (wpS_mono (wpS_forRange (I := fun _ c st' => c = (none, ()) ∧ SB a₀ k0 st' ∧ Runs r (arrOf st').toList 0 (pendingOf st').toList lo ∧ Srt r (seg (arrOf st').toList lo n))
        (Q := fun c st' => c = (none, ()) ∧ SB a₀ k0 st' ∧ Runs r (arrOf st').toList 0 (pendingOf st').toList lo ∧ Srt r (seg (arrOf st').toList lo n)) ?_ (fun _ _ z => z) ⟨rfl, hB3, hR3, hS3⟩) ?_)
      · rintro y c st4 _ _ ⟨rfl, hB4, hR4, hS4⟩
        refine wpS_bind (wpS_get ?_)
        by_cases hgt : (pendingOf st4).size > 1
        · rw [if_pos hgt]
          have hpl : (pendingOf st4).toList.length = (pendingOf st4).size := Array.length_toList
          obtain ⟨pre, sa, na, pa, sb, nb, pb, post, e, hpre⟩ := two_of (p := (pendingOf st4).toList) (i := (pendingOf st4).size - 2) (by omega)
          have eg : (pendingOf st4)[(pendingOf st4).size - 2]? = some (sa, na, pa) := by
            rw [← Array.getElem?_toList, e, List.getElem?_append_right (by omega), hpre, Nat.sub_self]; rfl
          rw [eg]
          dsimp only
          split
          · exact wpS_pure ⟨rfl, hB4, hR4, hS4⟩
          · refine wpS_bind (wpS_mergeAt hc hB4 e hpre h1 hR4 fun st5 hB5 hp5 hR5 hseg => ?_)
            rw [if_neg (by decide)]
            exact wpS_pure ⟨rfl, hB5, hR5, by rw [hseg lo n (Nat.le_refl _)]; exact hS4⟩
        · rw [if_neg hgt]
          exact wpS_pure ⟨rfl, hB4, hR4, hS4⟩
      · rintro c st4 ⟨rfl, hB4, hR4, hS4⟩
        dsimp only
        refine wpS_bind (wpS_modify (wpS_bind (wpS_modify (wpS_pure (fin (setPending st4 ((pendingOf st4).modify ((pendingOf st4).size - 1) fun x => (x.1, x.2.1, _))) ⟨hB4.perm, hB4.kind, hB4.failed⟩ ?_ hS4)))))
        show Runs r (arrOf st4).toList 0 ((pendingOf st4).modify _ _).toList lo
        rw [Array.toList_modify]
        refine Runs.last hR4 ?_ _
        exact fun x => ⟨rfl, rfl⟩
end TS
namespace TF
open PySem PySem.Spec L2
open PyProof.Rows hiding St RelV
mutual
def cmpD (st : Bool) : Dat → Dat → Bool
  | .int a, .int b => if st then decide (a < b) else decide (a ≤ b)
  | .tup l, .tup m => cmpL st l m
  | _, _ => false
def cmpL (st : Bool) : List Dat → List Dat → Bool
  | [], [] => !st
  | [], _ :: _ => true
  | _ :: _, [] => false
  | x :: l, y :: m => if eqD x y then cmpL st l m else cmpD st x y
end
def ordC : Nat → Dat → Dat → Bool
  | _, .int _, .int _ => true
  | n + 1, .tup l, .tup m => (l.zip m).all fun p => ordC n p.1 p.2
  | _, _, _ => false
abbrev opOf (st : Bool) : CmpOp := if st then .Lt else .LtE
def LtAt (st : Bool) (A : Around) (s : Shared) (u v : Value) (b : Bool) : Prop :=
  ∀ (prog : Program) (w : World) (E : Value → Shared → Prop) (Q : Value → Shared → Prop), Q (.bool b) s → wpAny (model prog w) A (richCompare (opOf st) u v) Q E s
section
open PySem.SeqAt
open PySem.AutoSeq1 (wpAny_loadPart')
open PySem.MeetsSeq PySem.MeetsSeq2 PySem.MeetsSeq3
inductive Prs (A : Around) (s : Shared) (st : Bool) : List Dat → List Dat → List Value → List Value → Prop
  | nilL {m ws} (h : ws.length = m.length) : Prs A s st [] m [] ws
  | nilR {l vs} (h : vs.length = l.length) : Prs A s st l [] vs []
  | cons {x y l m u v vs ws} (he : EqAt A s u v (eqD x y)) (hl : LtAt st A s u v (cmpD st x y)) (t : Prs A s st l m vs ws) : Prs A s st (x :: l) (y :: m) (u :: vs) (v :: ws)
theorem tuple_lt_D (l b : Addr) (items items2 : Array Value) (n n2 : Nat) (dd dd2 : Option Addr) (sl sl2 : Array (Option Value)) (ds es : List Dat) :
    Meets (Builtin.«tuple.__lt__» ⟨[.ref l, .ref b], []⟩)
      (fun A R s => Prs A.in1 s true ds es items.toList items2.toList ∧ ds.length = items.size ∧ es.length = items2.size ∧ s.heap.get? l = some { cls := .type "tuple", dict := dd, data := .seq items n, slots := sl } ∧ s.heap.get? b = some { cls := .type "tuple", dict := dd2, data := .seq items2 n2, slots := sl2 } ∧
        R (.ok (.ret (.bool (cmpL true ds es)))) s) :=
  .of_wp fun prog w A R s h => by
    obtain ⟨hp, g, d, tk, os⟩ := s; obtain ⟨hP, z1, z2, hl, hb, h⟩ := h
    have f2 := AutoSeq1.sub_tuple_tuple
    wp_walk using wpAny_loadPart' hl, wpAny_loadPart' hb, wpAny_forIn_list _ (fun rest b s' => b.1 = none ∧ s' = ⟨hp, g, d, tk, os⟩ ∧ ∃ (vs ws : List Value) (ds' es' : List Dat), rest = vs.zip ws ∧
      Prs A.in1 ⟨hp, g, d, tk, os⟩ true ds' es' vs ws ∧ ds'.length + items2.size = es'.length + items.size ∧ R (.ok (.ret (.bool (cmpL true ds' es')))) ⟨hp, g, d, tk, os⟩) _
    case turn =>
      rintro ⟨y, x⟩ rest b s' ⟨hb', rfl, vs, ws, ds', es', hz, hP', hlen, hR⟩
      cases hP' with
      | nilL hq => rw [List.zip_nil_left] at hz; cases hz
      | nilR hq => rw [List.zip_nil_right] at hz; cases hz
      | @cons dx dy l' m' u v vs' ws' he hlt hP2 =>
        rw [List.zip_cons_cons] at hz
        injection hz with hyx hrest
        injection hyx with hy hx
        subst hy hx
        rw [cmpL] at hR
        simp only [List.length_cons] at hlen
        refine wpAny_bind (he prog w _ _ ?_)
        cases hq : eqD dx dy with
        | true =>
          rw [hq, if_pos rfl] at hR
          wp_walk
          exact ⟨rfl, rfl, _, _, _, _, hrest, hP2, by omega, hR⟩
        | false =>
          rw [hq, if_neg (by decide)] at hR
          have hri : ∀ (E : Value → Shared → Prop) (Q : Value → Shared → Prop), Q (.bool (cmpD true dx dy)) ⟨hp, g, d, tk, os⟩ → wpAny (model prog w) A.in1 (richCompare .Lt y x) Q E ⟨hp, g, d, tk, os⟩ := hlt prog w
          wp_walk using hri
          exact ⟨_, rfl, by simpa using hR⟩
    case fin =>
      rintro ⟨b1, b2⟩ s' ⟨hb', rfl, vs, ws, ds', es', hz, hP', hlen, hR⟩
      simp only at hb'
      subst hb'
      have hv : cmpL true ds' es' = decide (items.size < items2.size) := by
        cases hP' with
        | nilL hq =>
          cases es' with
          | nil =>
            simp only [List.length_nil] at hlen
            rw [cmpL]
            exact (decide_eq_false (by omega)).symm
          | cons y m =>
            simp only [List.length_nil, List.length_cons] at hlen
            rw [cmpL]
            exact (decide_eq_true (by omega)).symm
        | nilR hq =>
          cases ds' with
          | nil =>
            simp only [List.length_nil] at hlen
            rw [cmpL]
            exact (decide_eq_false (by omega)).symm
          | cons y m =>
            simp only [List.length_nil, List.length_cons] at hlen
            rw [cmpL]
            exact (decide_eq_false (by omega)).symm
        | cons he hlt hP2 => rw [List.zip_cons_cons] at hz; cases hz
      rw [hv] at hR
      wp_walk
      exact ⟨_, rfl, by simpa [Builtin.Tuple.tupleCompareSizes] using hR⟩
    case h =>
      exact ⟨rfl, rfl, items.toList, items2.toList, ds, es, rfl, hP, by omega, h⟩
theorem tuple_le_D (l b : Addr) (items items2 : Array Value) (n n2 : Nat) (dd dd2 : Option Addr) (sl sl2 : Array (Option Value)) (ds es : List Dat) :
    Meets (Builtin.«tuple.__le__» ⟨[.ref l, .ref b], []⟩)
      (fun A R s => Prs A.in1 s false ds es items.toList items2.toList ∧ ds.length = items.size ∧ es.length = items2.size ∧ s.heap.get? l = some { cls := .type "tuple", dict := dd, data := .seq items n, slots := sl } ∧ s.heap.get? b = some { cls := .type "tuple", dict := dd2, data := .seq items2 n2, slots := sl2 } ∧
        R (.ok (.ret (.bool (cmpL false ds es)))) s) :=
  .of_wp fun prog w A R s h => by
    obtain ⟨hp, g, d, tk, os⟩ := s; obtain ⟨hP, z1, z2, hl, hb, h⟩ := h
    have f2 := AutoSeq1.sub_tuple_tuple
    wp_walk using wpAny_loadPart' hl, wpAny_loadPart' hb, wpAny_forIn_list _ (fun rest b s' => b.1 = none ∧ s' = ⟨hp, g, d, tk, os⟩ ∧ ∃ (vs ws : List Value) (ds' es' : List Dat), rest = vs.zip ws ∧
      Prs A.in1 ⟨hp, g, d, tk, os⟩ false ds' es' vs ws ∧ ds'.length + items2.size = es'.length + items.size ∧ R (.ok (.ret (.bool (cmpL false ds' es')))) ⟨hp, g, d, tk, os⟩) _
    case turn =>
      rintro ⟨y, x⟩ rest b s' ⟨hb', rfl, vs, ws, ds', es', hz, hP', hlen, hR⟩
      cases hP' with
      | nilL hq => rw [List.zip_nil_left] at hz; cases hz
      | nilR hq => rw [List.zip_nil_right] at hz; cases hz
      | @cons dx dy l' m' u v vs' ws' he hlt hP2 =>
        rw [List.zip_cons_cons] at hz
        injection hz with hyx hrest
        injection hyx with hy hx
        subst hy hx
        rw [cmpL] at hR
        simp only [List.length_cons] at hlen
        refine wpAny_bind (he prog w _ _ ?_)
        cases hq : eqD dx dy with
        | true =>
          rw [hq, if_pos rfl] at hR
          wp_walk
          exact ⟨rfl, rfl, _, _, _, _, hrest, hP2, by omega, hR⟩
        | false =>
          rw [hq, if_neg (by decide)] at hR
          have hri : ∀ (E : Value → Shared → Prop) (Q : Value → Shared → Prop), Q (.bool (cmpD false dx dy)) ⟨hp, g, d, tk, os⟩ → wpAny (model prog w) A.in1 (richCompare .LtE y x) Q E ⟨hp, g, d, tk, os⟩ := hlt prog w
          wp_walk using hri
          exact ⟨_, rfl, by simpa using hR⟩
    case fin =>
      rintro ⟨b1, b2⟩ s' ⟨hb', rfl, vs, ws, ds', es', hz, hP', hlen, hR⟩
      simp only at hb'
      subst hb'
      have hv : cmpL false ds' es' = decide (items.size ≤ items2.size) := by
        cases hP' with
        | nilL hq =>
          cases es' with
          | nil =>
            simp only [List.length_nil] at hlen
            rw [cmpL]
            exact (decide_eq_true (by omega)).symm
          | cons y m =>
            simp only [List.length_nil, List.length_cons] at hlen
            rw [cmpL]
            exact (decide_eq_true (by omega)).symm
        | nilR hq =>
          cases ds' with
          | nil =>
            simp only [List.length_nil] at hlen
            rw [cmpL]
            exact (decide_eq_true (by omega)).symm
          | cons y m =>
            simp only [List.length_nil, List.length_cons] at hlen
            rw [cmpL]
            exact (decide_eq_false (by omega)).symm
        | cons he hlt hP2 => rw [List.zip_cons_cons] at hz; cases hz
      rw [hv] at hR
      wp_walk
      exact ⟨_, rfl, by simpa [Builtin.Tuple.tupleCompareSizes] using hR⟩
    case h =>
      exact ⟨rfl, rfl, items.toList, items2.toList, ds, es, rfl, hP, by omega, h⟩
theorem prs_of {A : Around} {s : Shared} {st : Bool} : ∀ {l m : List Dat} {vs ws : List Value}, vs.length = l.length → ws.length = m.length →
    (∀ (i : Nat) x y u v, l[i]? = some x → m[i]? = some y → vs[i]? = some u → ws[i]? = some v → EqAt A s u v (eqD x y) ∧ LtAt st A s u v (cmpD st x y)) → Prs A s st l m vs ws
  | [], m, vs, ws, h1, h2, _ => by
    obtain rfl := List.eq_nil_of_length_eq_zero h1
    exact .nilL h2
  | _ :: _, [], vs, ws, h1, h2, _ => by
    obtain rfl := List.eq_nil_of_length_eq_zero h2
    exact .nilR h1
  | x :: l, y :: m, [], _, h1, _, _ => by simp at h1
  | x :: l, y :: m, _ :: _, [], _, h2, _ => by simp at h2
  | x :: l, y :: m, u :: vs, v :: ws, h1, h2, h => by
    obtain ⟨a, b⟩ := h 0 x y u v rfl rfl rfl rfl
    refine .cons a b (prs_of (by simpa using h1) (by simpa using h2) fun i x' y' u' v' g1 g2 g3 g4 => h (i + 1) x' y' u' v' (by simpa using g1) (by simpa using g2) (by simpa using g3) (by simpa using g4))
theorem ltAt_D {s : Shared} (st : Bool) : ∀ (n : Nat) {A : Around} {d e : Dat} {u v : Value}, ordC n d e = true → plainD n d = true → plainD n e = true → AtH s.heap d u → AtH s.heap e v → A.units + n < cLine → LtAt st A s u v (cmpD st d e)
  | n, A, .int a, .int b, u, v, ho, _, _, hd, he, hu => by
    rw [AtH] at hd he
    obtain ⟨t, rfl⟩ := hd
    obtain ⟨t', rfl⟩ := he
    intro prog w E Q h
    rw [cmpD] at h
    cases st with
    | true => exact (PyProof.Rows.lt_int h : wpAny (model prog w) A (compareOp .Lt (.int a t) (.int b t')) Q E s)
    | false => exact (PyProof.Rows.le_int h : wpAny (model prog w) A (compareOp .LtE (.int a t) (.int b t')) Q E s)
  | n + 1, A, .tup l, .tup m, u, v, ho, pd, pe, hd, he, hu => by
    rw [AtH] at hd he
    obtain ⟨a, is, rfl, ti, rl⟩ := hd
    obtain ⟨b, js, rfl, tj, rm⟩ := he
    rw [ordC, List.all_eq_true] at ho
    rw [plainD, List.all_eq_true] at pd pe
    have hP : Prs A.in1 s st l m is js := prs_of rl.length rm.length fun i x y u v g1 g2 g3 g4 => by
      obtain ⟨u', hu', ru⟩ := rl.get g1
      obtain ⟨v', hv', rv⟩ := rm.get g2
      rw [g3] at hu'
      rw [g4] at hv'
      cases hu'
      cases hv'
      have p1 := pd x (List.mem_of_getElem? g1)
      have p2 := pe y (List.mem_of_getElem? g2)
      have o1 := ho (x, y) (List.mem_of_getElem? (i := i) (by rw [List.getElem?_zip_eq_some]; exact ⟨g1, g2⟩))
      have hu2 : A.in1.units + n < cLine := by show A.units + 1 + n < cLine; omega
      exact ⟨(eqAt_D n p1 p2 ru rv hu2).1, ltAt_D st n o1 p1 p2 ru rv hu2⟩
    obtain ⟨⟨cls, dd, data, sl⟩, ho1, hc, n1, hd⟩ := id ti
    obtain ⟨⟨cls2, dd2, data2, sl2⟩, ho2, hc2, n2, hd2⟩ := id tj
    simp only at hc hd hc2 hd2
    subst hc hd hc2 hd2
    intro prog w E Q h
    rw [cmpD] at h
    have z1 : l.length = is.toArray.size := by rw [List.size_toArray, rl.length]
    have z2 : m.length = js.toArray.size := by rw [List.size_toArray, rm.length]
    cases st with
    | true =>
      exact richCompare_meets_room (op := .Lt) ⟨_, ho1, rfl⟩ ⟨_, ho2, rfl⟩ PySem.F.slot_tuple_lt PySem.F.entry_tuple_lt (PySem.F.args_tuple_lt_2 _ _) (tuple_lt_D a b is.toArray js.toArray n1 n2 dd dd2 sl sl2 l m)
        ⟨hP, z1, z2, ho1, ho2, show Value.bool (cmpL true l m) ≠ Value.notImplemented ∧ Q (.bool (cmpL true l m)) s from ⟨(fun x => nomatch x), h⟩⟩ (by omega)
    | false =>
      exact richCompare_meets_room (op := .LtE) ⟨_, ho1, rfl⟩ ⟨_, ho2, rfl⟩ PySem.F.slot_tuple_le PySem.F.entry_tuple_le (PySem.F.args_tuple_le_2 _ _) (tuple_le_D a b is.toArray js.toArray n1 n2 dd dd2 sl sl2 l m)
        ⟨hP, z1, z2, ho1, ho2, show Value.bool (cmpL false l m) ≠ Value.notImplemented ∧ Q (.bool (cmpL false l m)) s from ⟨(fun x => nomatch x), h⟩⟩ (by omega)
  | 0, _, .tup _, .tup _, _, _, ho, _, _, _, _, _ => by simp [ordC] at ho
  | _, _, .int _, .tup _, _, _, ho, _, _, _, _, _ => by simp [ordC] at ho
  | _, _, .tup _, .int _, _, _, ho, _, _, _, _, _ => by simp [ordC] at ho
  | _, _, .non, _, _, _, ho, _, _, _, _, _ => by simp [ordC] at ho
  | _, _, .bl _, _, _, _, ho, _, _, _, _, _ => by simp [ordC] at ho
  | _, _, .str _, _, _, _, ho, _, _, _, _, _ => by simp [ordC] at ho
  | _, _, .fn _, _, _, _, ho, _, _, _, _, _ => by simp [ordC] at ho
  | _, _, .scr _, _, _, _, ho, _, _, _, _, _ => by simp [ordC] at ho
  | _, _, .lst _, _, _, _, ho, _, _, _, _, _ => by simp [ordC] at ho
  | _, _, .int _, .non, _, _, ho, _, _, _, _, _ => by simp [ordC] at ho
  | _, _, .int _, .bl _, _, _, ho, _, _, _, _, _ => by simp [ordC] at ho
  | _, _, .int _, .str _, _, _, ho, _, _, _, _, _ => by simp [ordC] at ho
  | _, _, .int _, .fn _, _, _, ho, _, _, _, _, _ => by simp [ordC] at ho
  | _, _, .int _, .scr _, _, _, ho, _, _, _, _, _ => by simp [ordC] at ho
  | _, _, .int _, .lst _, _, _, ho, _, _, _, _, _ => by simp [ordC] at ho
  | _, _, .tup _, .non, _, _, ho, _, _, _, _, _ => by simp [ordC] at ho
  | _, _, .tup _, .bl _, _, _, ho, _, _, _, _, _ => by simp [ordC] at ho
  | _, _, .tup _, .str _, _, _, ho, _, _, _, _, _ => by simp [ordC] at ho
  | _, _, .tup _, .fn _, _, _, ho, _, _, _, _, _ => by simp [ordC] at ho
  | _, _, .tup _, .scr _, _, _, ho, _, _, _, _, _ => by simp [ordC] at ho
  | _, _, .tup _, .lst _, _, _, ho, _, _, _, _, _ => by simp [ordC] at ho
end
end TF
namespace TF
open PySem PySem.Spec L2
open PyProof.Rows hiding St RelV
open HT (lexLt)
mutual
theorem AtH.kept {h h' : Heap} (k : ∀ b o, h.get? b = some o → h'.get? b = some o) : ∀ {d : Dat} {u : Value}, AtH h d u → AtH h' d u
  | .non, _, r => by rw [AtH] at r ⊢; exact r
  | .bl _, _, r => by rw [AtH] at r ⊢; exact r
  | .int _, _, r => by rw [AtH] at r ⊢; exact r
  | .str _, _, r => by rw [AtH] at r ⊢; exact r
  | .fn _, _, r => by rw [AtH] at r ⊢; exact r
  | .scr _, _, r => by rw [AtH] at r; exact r.elim
  | .tup _, _, r => by
    rw [AtH] at r ⊢
    obtain ⟨a, its, h1, ⟨o, h2, h3⟩, h4⟩ := r
    exact ⟨a, its, h1, ⟨o, k _ _ h2, h3⟩, AtL.kept k h4⟩
  | .lst _, _, r => by
    rw [AtH] at r ⊢
    obtain ⟨a, its, h1, ⟨o, h2, h3⟩, h4⟩ := r
    exact ⟨a, its, h1, ⟨o, k _ _ h2, h3⟩, AtL.kept k h4⟩
theorem AtL.kept {h h' : Heap} (k : ∀ b o, h.get? b = some o → h'.get? b = some o) : ∀ {ds : List Dat} {us : List Value}, AtL h ds us → AtL h' ds us
  | [], _, r => by rw [AtL] at r ⊢; exact r
  | _ :: _, _, r => by
    rw [AtL] at r ⊢
    obtain ⟨u, r', h1, h2, h3⟩ := r
    exact ⟨u, r', h1, AtH.kept k h2, AtL.kept k h3⟩
end
theorem AtL.mem {h : Heap} : ∀ {ds : List Dat} {us : List Value}, AtL h ds us → ∀ u ∈ us, ∃ d ∈ ds, AtH h d u
  | [], _, r, u, hu => by rw [AtL] at r; subst r; cases hu
  | d :: ds, _, r, u, hu => by
    rw [AtL] at r
    obtain ⟨u', r', rfl, h2, h3⟩ := r
    rcases List.mem_cons.mp hu with rfl | hu
    · exact ⟨d, List.mem_cons_self .., h2⟩
    · obtain ⟨d', h4, h5⟩ := AtL.mem h3 u hu
      exact ⟨d', List.mem_cons_of_mem _ h4, h5⟩
theorem lexLt_irr : ∀ l : List Int, lexLt l l = false
  | [] => rfl
  | x :: l => by rw [HT.lexLt_cons, if_pos rfl, lexLt_irr l]
theorem lexLt_tr : ∀ {a b c : List Int}, lexLt a b = true → lexLt b c = true → lexLt a c = true
  | [], [], _, h, _ => by cases h
  | [], _ :: _, [], _, h => by cases h
  | [], _ :: _, _ :: _, _, _ => rfl
  | _ :: _, [], _, h, _ => by cases h
  | _ :: _, _ :: _, [], _, h => by cases h
  | x :: a, y :: b, z :: c, h1, h2 => by
    rw [HT.lexLt_cons] at *
    split at h1 <;> split at h2
    · rename_i e1 e2; subst e1; subst e2; rw [if_pos rfl]; exact lexLt_tr h1 h2
    · rename_i e1 e2; subst e1; rw [if_neg e2]; exact h2
    · rename_i e1 e2; subst e2; rw [if_neg e1]; exact h1
    · rename_i e1 e2
      simp only [decide_eq_true_eq] at h1 h2
      rw [if_neg (by omega)]
      simp only [decide_eq_true_eq]; omega
theorem lexLt_tot : ∀ {a b : List Int}, lexLt a b = false → lexLt b a = false → a = b
  | [], [], _, _ => rfl
  | [], _ :: _, h, _ => by cases h
  | _ :: _, [], _, h => by cases h
  | x :: a, y :: b, h1, h2 => by
    rw [HT.lexLt_cons] at *
    by_cases e : x = y
    · subst e
      rw [if_pos rfl] at h1 h2
      rw [lexLt_tot h1 h2]
    · rw [if_neg e] at h1
      rw [if_neg (Ne.symm e)] at h2
      simp only [decide_eq_false_iff_not] at h1 h2
      omega
theorem lexLt_nt {a b c : List Int} (h : lexLt a c = true) : lexLt a b = true ∨ lexLt b c = true := by
  cases e : lexLt a b with
  | true => exact .inl rfl
  | false =>
    right
    cases e2 : lexLt b a with
    | false =>
      have := lexLt_tot e e2
      subst this; exact h
    | true => exact lexLt_tr e2 h
structure OrdL (g : Dat → List Int) (ds : List Dat) : Prop where
  lt : ∀ x ∈ ds, ∀ y ∈ ds, cmpD true x y = lexLt (g x) (g y)
  ord : ∀ x ∈ ds, ∀ y ∈ ds, ordC 8 x y = true
  pl : ∀ x ∈ ds, plainD 8 x = true
  tup : ∀ x ∈ ds, ∃ y l, x = .tup (y :: l)
  one : (∀ x ∈ ds, ∃ i l, x = .tup (.int i :: l)) ∨ (∀ x ∈ ds, ∃ k l, x = .tup (.tup k :: l))
open Classical in
noncomputable def datOf (h : Heap) (u : Value) : Dat := if e : ∃ d, plainD 8 d = true ∧ AtH h d u then Classical.choose e else .non
theorem datOf_eq {h : Heap} {d : Dat} {u : Value} (p : plainD 8 d = true) (r : AtH h d u) : datOf h u = d := by
  have e : ∃ d, plainD 8 d = true ∧ AtH h d u := ⟨d, p, r⟩
  unfold datOf
  rw [dif_pos e]
  obtain ⟨a, b⟩ := Classical.choose_spec e
  exact AtH.inj 8 a p b r
def rkD (g : Dat → List Int) (ds : List Dat) (d : Dat) : Nat := ds.countP fun z => lexLt (g z) (g d)
theorem rk_mono (g : Dat → List Int) : ∀ (ds : List Dat) {x y : Dat}, lexLt (g x) (g y) = true → rkD g ds x ≤ rkD g ds y ∧ (x ∈ ds → rkD g ds x < rkD g ds y)
  | [], x, y, _ => ⟨Nat.le_refl _, fun h => by cases h⟩
  | z :: ds, x, y, h => by
    obtain ⟨i1, i2⟩ := rk_mono g ds h
    unfold rkD at *
    rw [List.countP_cons, List.countP_cons]
    have imp : lexLt (g z) (g x) = true → lexLt (g z) (g y) = true := fun e => lexLt_tr e h
    constructor
    · cases e1 : lexLt (g z) (g x) with
      | true => rw [imp e1]; simp; exact i1
      | false => simp; omega
    · intro hx
      rcases List.mem_cons.mp hx with rfl | hx
      · rw [lexLt_irr, h]; simp; omega
      · have := i2 hx
        cases e1 : lexLt (g z) (g x) with
        | true => rw [imp e1]; simp; omega
        | false => simp; omega
theorem rk_iff (g : Dat → List Int) (ds : List Dat) {x y : Dat} (hx : x ∈ ds) (hy : y ∈ ds) : decide (rkD g ds x < rkD g ds y) = lexLt (g x) (g y) := by
  cases e : lexLt (g x) (g y) with
  | true => exact decide_eq_true ((rk_mono g ds e).2 hx)
  | false =>
    refine decide_eq_false fun hlt => ?_
    cases e2 : lexLt (g y) (g x) with
    | true => have := (rk_mono g ds e2).2 hy; omega
    | false =>
      have := lexLt_tot e e2
      unfold rkD at hlt
      rw [this] at hlt
      omega
section
variable {prog : Program} {w : World} {A : Around} {E : Value → Shared → Prop} {s : Shared}
theorem oneLt_D {d e : Dat} {u v : Value} (fl : Bool) {Q : Bool → Shared → Prop} (hf : fl = true → (∃ i, d = .int i) ∧ ∃ j, e = .int j) (hl : LtAt true A s u v (cmpD true d e)) (rd : AtH s.heap d u) (re : AtH s.heap e v) (h : Q (cmpD true d e) s) : wpAny (model prog w) A (oneLt' fl u v) Q E s := by
  cases fl with
  | true =>
    obtain ⟨⟨i, rfl⟩, j, rfl⟩ := hf rfl
    rw [AtH] at rd re
    obtain ⟨t, rfl⟩ := rd
    obtain ⟨t', rfl⟩ := re
    refine oneLt_int ?_
    rw [cmpD] at h
    exact h
  | false =>
    refine PySem.W.kat_one u v ?_
    exact hl prog w E _ h
theorem keyLt_D {fl : Bool} {a b : Addr} {l m : List Dat} {is js : List Value} {Q : Bool → Shared → Prop} (ti : s.heap.IsTuple a is.toArray) (tj : s.heap.IsTuple b js.toArray) (rl : AtL s.heap l is) (rm : AtL s.heap m js) (hP : Prs A s true l m is js)
    (hf : fl = true → ∀ x y, l[0]? = some x → m[0]? = some y → (∃ i, x = .int i) ∧ ∃ j, y = .int j) (h : Q (cmpL true l m) s) : wpAny (model prog w) A (keyLt' (tuples' fl) (.ref a) (.ref b)) Q E s := by
  obtain ⟨o1, h1, _, n1, d1⟩ := ti
  obtain ⟨o2, h2, _, n2, d2⟩ := tj
  refine PySem.W.kat_lt h1 d1 h2 d2 ?_
  have z1 : is.toArray.size = l.length := by rw [List.size_toArray, rl.length]
  have z2 : js.toArray.size = m.length := by rw [List.size_toArray, rm.length]
  have gen : ∀ (i : Nat) (l' m' : List Dat) (is' js' : List Value), Prs A s true l' m' is' js' → AtL s.heap l' is' → AtL s.heap m' js' → (fl && i == 0) = true ∧ l' = l ∧ m' = m ∨ (fl && i == 0) = false → l'.length + m.length = m'.length + l.length → Q (cmpL true l' m') s →
      PySem.W.KatLex prog w A fl (decide (is.toArray.size < js.toArray.size)) Q (is'.zip js') i s := by
    intro i l' m' is' js' hP'
    induction hP' generalizing i with
    | @nilL m' ws hq =>
      intro _ _ _ hl hQ
      rw [List.zip_nil_left]
      refine PySem.W.kat_nil ?_
      rw [z1, z2]
      rw [List.length_nil] at hl
      cases m' with
      | nil => rw [cmpL] at hQ; rw [decide_eq_false (by simp at hl; omega)]; exact hQ
      | cons y m' => rw [cmpL] at hQ; rw [decide_eq_true (by simp at hl; omega)]; exact hQ
    | @nilR l' vs hq =>
      intro _ _ _ hl hQ
      rw [List.zip_nil_right]
      refine PySem.W.kat_nil ?_
      rw [z1, z2]
      rw [List.length_nil] at hl
      cases l' with
      | nil => rw [cmpL] at hQ; rw [decide_eq_false (by simp at hl; omega)]; exact hQ
      | cons y l' => rw [cmpL] at hQ; rw [decide_eq_false (by simp at hl; omega)]; exact hQ
    | @cons x y l' m' u v vs ws he hl' t ih =>
      intro r1 r2 hfl hlen hQ
      rw [AtL] at r1 r2
      obtain ⟨u', vs', e1, ru, rvs⟩ := r1
      obtain ⟨v', ws', e2, rv, rws⟩ := r2
      cases e1
      cases e2
      rw [List.zip_cons_cons]
      refine PySem.W.kat_cons (he prog w _ _ ?_)
      rw [cmpL] at hQ
      cases hq : eqD x y with
      | true =>
        rw [hq, if_pos rfl] at hQ
        refine PySem.W.kat_yes (ih (i + 1) rvs rws (.inr (by simp)) (by simp at hlen; omega) hQ)
      | false =>
        rw [hq, if_neg (by decide)] at hQ
        refine PySem.W.kat_no (oneLt_D _ (fun hfi => ?_) hl' ru rv hQ)
        rcases hfl with ⟨g1, g2, g3⟩ | g1
        · refine hf ?_ x y ?_ ?_
          · cases fl <;> simp_all
          · rw [← g2]; rfl
          · rw [← g3]; rfl
        · rw [g1] at hfi; cases hfi
  refine gen 0 l m is js hP rl rm ?_ (Nat.add_comm _ _) h
  cases fl with
  | true => exact .inl ⟨rfl, rfl, rfl⟩
  | false => exact .inr rfl
theorem cmpOk_D {g : Dat → List Int} {ds : List Dat} {vs : List Value} (r : AtL s.heap ds vs) (O : OrdL g ds) {fl : Bool} (hf : fl = true → ∀ x ∈ ds, ∃ i l, x = .tup (.int i :: l)) (hu : A.units + 8 < cLine) :
    TS.CmpOk prog w A s (pairsOf vs) (fun p => rkD g ds (datOf s.heap p.1)) (tuples' fl) := by
  intro x y hx hy E Q hq
  rw [pairsOf_toList] at hx hy
  obtain ⟨d, hd, rd⟩ := r.mem _ (mem_zip_self hx).2
  obtain ⟨e, he, re⟩ := r.mem _ (mem_zip_self hy).2
  have hq0 : decide (rkD g ds (datOf s.heap x.1) < rkD g ds (datOf s.heap y.1)) = cmpD true d e := by
    rw [datOf_eq (O.pl d hd) rd, datOf_eq (O.pl e he) re, rk_iff g ds hd he, ← O.lt d hd e he]
  replace hq : Q (cmpD true d e) s := by rw [← hq0]; exact hq
  have hl := ltAt_D (A := A) (s := s) true 8 (O.ord d hd e he) (O.pl d hd) (O.pl e he) rd re hu
  obtain ⟨x0, l, rfl⟩ := O.tup d hd
  obtain ⟨y0, m, rfl⟩ := O.tup e he
  have od := O.ord _ hd _ he
  have p1 := O.pl _ hd
  have p2 := O.pl _ he
  rw [plainD, List.all_eq_true] at p1 p2
  rw [ordC, List.all_eq_true] at od
  rw [AtH] at rd re
  obtain ⟨a, is, ea, ti, rl⟩ := rd
  obtain ⟨b, js, eb, tj, rm⟩ := re
  rw [ea, eb]
  rw [cmpD] at hq
  refine keyLt_D ti tj rl rm (prs_of rl.length rm.length fun i x y u v g1 g2 g3 g4 => ?_) (fun h0 x y g1 g2 => ?_) hq
  · obtain ⟨u', hu', ru⟩ := rl.get g1
    obtain ⟨v', hv', rv⟩ := rm.get g2
    rw [g3] at hu'
    rw [g4] at hv'
    cases hu'
    cases hv'
    have q1 := p1 x (List.mem_of_getElem? g1)
    have q2 := p2 y (List.mem_of_getElem? g2)
    have o1 := od (x, y) (List.mem_of_getElem? (i := i) (by rw [List.getElem?_zip_eq_some]; exact ⟨g1, g2⟩))
    exact ⟨(eqAt_D 7 q1 q2 ru rv (by omega)).1, ltAt_D true 7 o1 q1 q2 ru rv (by omega)⟩
  · obtain ⟨i, l', e1⟩ := hf h0 _ hd
    obtain ⟨j, m', e2⟩ := hf h0 _ he
    cases e1
    cases e2
    cases g1
    cases g2
    exact ⟨⟨i, rfl⟩, j, rfl⟩
theorem katTups_of {g : Dat → List Int} {T : Value} : ∀ {ds : List Dat} {vs : List Value}, AtL s.heap ds vs → (∀ x ∈ ds, ∃ y l, x = .tup (y :: l) ∧ ∀ u, AtH s.heap y u → PySem.W.Looks (model prog w) s.heap (typeOf u) T) → ∃ fs, PySem.W.KatTups s.heap vs fs ∧ fs.length = vs.length ∧ ∀ v ∈ fs, PySem.W.Looks (model prog w) s.heap (typeOf v) T
  | [], _, r, _ => by rw [AtL] at r; subst r; exact ⟨[], trivial, rfl, fun _ h => by cases h⟩
  | d :: ds, _, r, h => by
    rw [AtL] at r
    obtain ⟨u, vs', rfl, rd, rr⟩ := r
    obtain ⟨fs, h1, h2, h3⟩ := katTups_of (g := g) rr fun x hx => h x (List.mem_cons_of_mem _ hx)
    obtain ⟨y, l, rfl, hy⟩ := h d (List.mem_cons_self ..)
    rw [AtH] at rd
    obtain ⟨a, is, rfl, ⟨o, ho, hc, n, hd⟩, rl⟩ := rd
    rw [AtL] at rl
    obtain ⟨u0, is', rfl, ru, _⟩ := rl
    refine ⟨u0 :: fs, .cons ho hc hd rfl h1, by simp [h2], fun v hv => ?_⟩
    rcases List.mem_cons.mp hv with rfl | hv
    · exact hy _ ru
    · exact h3 v hv
theorem pw_short {α : Type} {R : α → α → Prop} : ∀ {l : List α}, l.length < 2 → l.Pairwise R
  | [], _ => .nil
  | [_], _ => List.pairwise_singleton _ _
  | _ :: _ :: _, h => absurd h (by simp)
theorem listSort_D {g : Dat → List Int} {a : Addr} {ds : List Dat} {vs : List Value} {n : Nat} {P : PySem.Fin → Shared → Prop} (ho : s.heap.get? a = some (seqObj "list" vs.toArray n)) (r : AtL s.heap ds vs) (hna : ∀ b o, b ≠ a → s.heap.get? b = some o → True) (hfr : ∀ (h' : Heap), (∀ b o, b ≠ a → s.heap.get? b = some o → h'.get? b = some o) → AtL h' ds vs) (O : OrdL g ds) (hsz : vs.length ≤ sizeLine) (hu : A.units + 8 < cLine)
    (h : ∀ out : Array Value, out.toList.Perm vs → (out.toList.map fun u => g (datOf s.heap u)).Pairwise (fun x y => HT.lexLt y x = false) → P (.done (.ret .none)) { s with heap := sortedHeap s.heap a vs out }) :
    wpAny (model prog w) A (Builtin.«list.sort» ⟨[.ref a], []⟩) P E s := by
  rw [list_sort_plain]
  have ha : a < s.heap.objs.size := Heap.lt_size ho
  refine wpAny_bind (listItems_at ho rfl ?_)
  refine wpAny_bind (listUpdate_at ho rfl ?_ (by rw [List.size_toArray]; exact hsz) (Nat.zero_le _))
  obtain ⟨e1, ho1⟩ : ∃ e1, (s.heap.update a (Obj.mapSeq fun _ => #[])).get? a = some (seqObj "list" #[] e1) := ⟨_, get?_update_seq ho (fun _ => #[])⟩
  refine wpAny_bind (seqEpoch_at ho1 rfl ?_)
  refine wpAny_bind (wpAny_newTuple ?_ (by show vs.length ≤ _; exact hsz))
  refine wpAny_bind (wpAny_newList ?_ (Nat.zero_le _))
  refine wpAny_holding ?_
  have ho6 : (((s.heap.update a (Obj.mapSeq fun _ => #[])).push (seqObj "tuple" vs.toArray 0)).push (seqObj "list" #[] 0)).get? a = some (seqObj "list" #[] e1) := by
    rw [Heap.get?_push_ne _ _ _ (by rw [size_push', Heap.size_update]; exact Nat.ne_of_lt (Nat.lt_succ_of_lt ha)), Heap.get?_push_ne _ _ _ (by rw [Heap.size_update]; exact Nat.ne_of_lt ha)]
    exact ho1
  have keep : ∀ b o, b ≠ a → s.heap.get? b = some o → (((s.heap.update a (Obj.mapSeq fun _ => #[])).push (seqObj "tuple" vs.toArray 0)).push (seqObj "list" #[] 0)).get? b = some o := fun b o hb e => by
    have hlt : b < s.heap.objs.size := Heap.lt_size e
    rw [Heap.get?_push_ne _ _ _ (by rw [size_push', Heap.size_update]; exact Nat.ne_of_lt (Nat.lt_succ_of_lt hlt)), Heap.get?_push_ne _ _ _ (by rw [Heap.size_update]; exact Nat.ne_of_lt hlt), Heap.get?_update_ne _ _ _ _ hb]
    exact e
  have r6 := hfr _ keep
  show wpAny (model prog w) A _ P E { s with heap := ((s.heap.update a (Obj.mapSeq fun _ => #[])).push (seqObj "tuple" vs.toArray 0)).push (seqObj "list" #[] 0) }
  generalize hh6 : ((s.heap.update a (Obj.mapSeq fun _ => #[])).push (seqObj "tuple" vs.toArray 0)).push (seqObj "list" #[] 0) = h6 at *
  have dat6 : ∀ u ∈ vs, datOf h6 u = datOf s.heap u := fun u hu' => by
    obtain ⟨i, hi⟩ := List.mem_iff_getElem?.mp hu'
    have hl := r.length
    have hli := (List.getElem?_eq_some_iff.mp hi).1
    have hd : ds[i]? = some (ds[i]'(by omega)) := List.getElem?_eq_getElem (by omega)
    obtain ⟨u1, q1, q2⟩ := r.get hd
    obtain ⟨u2, q3, q4⟩ := r6.get hd
    rw [hi] at q1 q3
    cases q1
    cases q3
    have p := O.pl _ (List.getElem_mem (by omega : i < ds.length))
    rw [datOf_eq p q2, datOf_eq p q4]
  dsimp only
  have hszA : vs.toArray.size = vs.length := by simp
  by_cases h2 : vs.toArray.size < 2
  · rw [if_pos h2, if_pos h2]
    refine wpAny_bind (wpAny_pure ?_)
    rw [StateT.run_pure]
    refine wpAny_bind (wpAny_pure ?_)
    dsimp only
    refine wpAny_bind (seqEpoch_at ho6 rfl ?_)
    refine wpAny_bind (listUpdate_at ho6 rfl ?_ (Nat.zero_le _) (by rw [Array.size_map]; show (pairsOf vs).size ≤ _; rw [pairsOf_size]; omega))
    simp only [bne_self_eq_false, Bool.false_eq_true, if_false]
    have e : (vs.toArray.zip vs.toArray).map (·.2) = vs.toArray := by
      apply Array.toList_inj.mp
      rw [Array.toList_map]
      show (pairsOf vs).toList.map (·.2) = vs
      rw [pairsOf_toList, List.map_snd_zip (Nat.le_refl _)]
    have := h vs.toArray (by simp) (by
      rw [hszA] at h2
      exact pw_short (by simpa using h2))
    refine wpAny_pure ?_
    unfold sortedHeap at this
    rw [hh6] at this
    show P _ { s with heap := h6.update a (Obj.mapSeq fun _ => (vs.toArray.zip vs.toArray).map (·.2)) }
    rw [e]
    exact this
  rw [if_neg h2, if_neg h2]
  have hne : 0 < vs.length := by omega
  obtain ⟨fl, hfl, hkk⟩ : ∃ fl : Bool, (fl = true → ∀ x ∈ ds, ∃ i l, x = .tup (.int i :: l)) ∧ ∀ (Q : SortKind → Shared → Prop), Q (tuples' fl) { s with heap := h6 } → wpAny (model prog w) A (keyKind' vs.toArray) Q E { s with heap := h6 } := by
    rcases O.one with ho' | ho'
    · refine ⟨true, fun _ => ho', fun Q hQ => ?_⟩
      obtain ⟨fs, k1, k2, k3⟩ := katTups_of (prog := prog) (w := w) (s := { s with heap := h6 }) (g := g) (T := .type "int") r6 fun x hx => by
        obtain ⟨i, l, rfl⟩ := ho' x hx
        refine ⟨_, l, rfl, fun u hu' => ?_⟩
        rw [AtH] at hu'
        obtain ⟨t, rfl⟩ := hu'
        exact PySem.W.Looks.of_pure rfl
      exact PySem.W.kat_kind k1 (by omega) k3 rfl hQ
    · refine ⟨false, (fun h => nomatch h), fun Q hQ => ?_⟩
      obtain ⟨fs, k1, k2, k3⟩ := katTups_of (prog := prog) (w := w) (s := { s with heap := h6 }) (g := g) (T := .type "tuple") r6 fun x hx => by
        obtain ⟨i, l, rfl⟩ := ho' x hx
        refine ⟨_, l, rfl, fun u hu' => ?_⟩
        rw [AtH] at hu'
        obtain ⟨b, is, rfl, ⟨o, q1, q2, _⟩, _⟩ := hu'
        have := (PySem.W.Looks.ld (M := model prog w) (part := none) q1).andThen (f := fun o => pure o.cls) (b := o.cls) .now
        rw [q2] at this
        exact (show PySem.W.Looks (model prog w) h6 (typeOf (.ref b)) (.type "tuple") from q2 ▸ (PySem.W.Looks.ld q1).andThen .now)
      exact PySem.W.kat_kind k1 (by omega) k3 rfl hQ
  refine wpAny_bind (hkk _ ?_)
  have hc := cmpOk_D (prog := prog) (w := w) (A := A) (s := { s with heap := h6 }) (g := g) r6 O hfl hu
  refine wpAny_bind (wpAny_mono (TS.wpS_sortRuns (st := SortSt.mk' (tuples' fl) (vs.toArray.zip vs.toArray) #[] 7 none) (Q := fun _ st' => TS.SB (pairsOf vs) (tuples' fl) st' ∧ TS.Srt (fun p => rkD g ds (datOf h6 p.1)) (arrOf st').toList) hc ⟨Array.Perm.refl _, rfl, rfl⟩ rfl fun st' b1 b2 => ⟨b1, b2⟩) ?_ fun _ _ e => e)
  rintro ⟨⟨⟩, st'⟩ s' ⟨rfl, hB, hS⟩
  dsimp only
  refine wpAny_bind (seqEpoch_at ho6 rfl ?_)
  have hpz : (arrOf st').toList.Perm (vs.zip vs) := by rw [← pairsOf_toList]; exact Array.perm_iff_toList_perm.mp hB.perm
  refine wpAny_bind (listUpdate_at ho6 rfl ?_ (Nat.zero_le _) (by rw [Array.size_map, hB.size, pairsOf_size]; omega))
  have hff : failedOf st' = none := hB.failed
  rw [hff]
  simp only [bne_self_eq_false, Bool.false_eq_true, if_false]
  refine wpAny_pure ?_
  have := h ((arrOf st').map (·.2)) (by
    rw [Array.toList_map]
    have := hpz.map (·.2)
    rwa [List.map_snd_zip (Nat.le_refl _)] at this) (by
    rw [Array.toList_map, List.map_map, List.pairwise_map]
    refine List.Pairwise.imp_of_mem (fun {x y} hx hy hle => ?_) hS
    have mx := mem_zip_self (hpz.mem_iff.mp hx)
    have my := mem_zip_self (hpz.mem_iff.mp hy)
    show HT.lexLt (g (datOf s.heap y.2)) (g (datOf s.heap x.2)) = false
    rw [← mx.1, ← my.1, ← dat6 _ mx.2, ← dat6 _ my.2]
    obtain ⟨dx, hdx, rdx⟩ := r6.mem _ mx.2
    obtain ⟨dy, hdy, rdy⟩ := r6.mem _ my.2
    have hle' : rkD g ds (datOf h6 x.1) ≤ rkD g ds (datOf h6 y.1) := hle
    rw [datOf_eq (O.pl _ hdx) rdx, datOf_eq (O.pl _ hdy) rdy] at hle' ⊢
    rw [← rk_iff g ds hdy hdx]
    exact decide_eq_false (by omega))
  unfold sortedHeap at this
  rw [hh6] at this
  exact this
end
end TF
namespace TF
open PySem PySem.Spec L2
open PyProof.Rows hiding St RelV
inductive Tri (K : PySem.W.Frag) (H : Hp) : List Dat → List V → List Value → Prop
  | nil : Tri K H [] [] []
  | cons {d v u ds vs us} (h : Rep K H d v) (r : RelV v u) (t : Tri K H ds vs us) : Tri K H (d :: ds) (v :: vs) (u :: us)
theorem tri_of {K : PySem.W.Frag} {H : Hp} : ∀ {ds : List Dat} {vs : List V} {us : List Value}, RepL K H ds vs → Vals vs us → Tri K H ds vs us
  | [], _, _, r, v => by rw [RepL] at r; subst r; cases v; exact .nil
  | d :: ds, _, _, r, v => by
    rw [RepL] at r
    obtain ⟨x, r', rfl, h1, h2⟩ := r
    cases v with
    | cons q t => exact .cons h1 q (tri_of h2 t)
theorem Tri.rep {K : PySem.W.Frag} {H : Hp} {ds : List Dat} {vs : List V} {us : List Value} (h : Tri K H ds vs us) : RepL K H ds vs ∧ Vals vs us := by
  induction h with
  | nil => exact ⟨RepL.nil, .nil⟩
  | cons h r t ih => exact ⟨RepL.cons h ih.1, .cons r ih.2⟩
theorem Tri.same {K : PySem.W.Frag} {H H' : Hp} {ds : List Dat} {vs : List V} {us : List Value} (e : Same H H') (h : Tri K H ds vs us) : Tri K H' ds vs us := by
  induction h with
  | nil => exact .nil
  | cons h r t ih => exact .cons (h.same e) r ih
theorem tri_perm {K : PySem.W.Frag} {H : Hp} {us us' : List Value} (p : us'.Perm us) : ∀ {ds : List Dat} {vs : List V}, Tri K H ds vs us → ∃ ds' vs', Tri K H ds' vs' us' ∧ ds'.Perm ds := by
  induction p with
  | nil => intro ds vs h; exact ⟨ds, vs, h, .refl _⟩
  | cons x p ih =>
    intro ds vs h
    cases h with
    | cons h r t =>
      obtain ⟨ds', vs', t', p'⟩ := ih t
      exact ⟨_, _, .cons h r t', p'.cons _⟩
  | swap x y l =>
    intro ds vs h
    cases h with
    | cons h r t =>
      cases t with
      | cons h2 r2 t2 => exact ⟨_, _, .cons h2 r2 (.cons h r t2), .swap ..⟩
  | trans p1 p2 i1 i2 =>
    intro ds vs h
    obtain ⟨ds', vs', t', p'⟩ := i2 h
    obtain ⟨ds2, vs2, t2, p2'⟩ := i1 t'
    exact ⟨ds2, vs2, t2, p2'.trans p'⟩
theorem tri_dat {X : Cx} {pins : List (Addr × Obj)} {σ : St} {H : Hp} {s : Shared} (I : Inv X pins σ H s) {g : Dat → List Int} {ds : List Dat} {vs : List V} {us : List Value} (h : Tri X.K H ds vs us) (pl : ∀ d ∈ ds, plainD 8 d = true) : us.map (fun u => g (datOf s.heap u)) = ds.map g := by
  induction h with
  | nil => rfl
  | cons h r t ih =>
    rw [List.map_cons, List.map_cons, ih fun d hd => pl d (List.mem_cons_of_mem _ hd)]
    have p := pl _ (List.mem_cons_self ..)
    rw [datOf_eq p (h.at I p r)]
section
variable {X : Cx} {ρ : Rho} {G : Gs} {e a b c : Expr} {d d1 d2 : Dat} {ds l m : List Dat} {pos : Pos}
theorem call_sortedD (g : Dat → List Int) (ds : List Dat) (O : OrdL g ds) (hu : X.A.units + 20 < cLine) : CallR X (.builtin "sorted") (fun xs H Q => ∃ p vs H0, xs = [.ref p] ∧ SqL X.K H p vs ∧ Same H0 H ∧ RepL X.K H0 ds vs ∧
    ∀ q ds' vs', H q = none → RepL X.K H0 ds' vs' → ds'.Perm ds → (ds'.map g).Pairwise (fun x y => HT.lexLt y x = false) → Q (.ref q) (upd H q (.lst vs'))) := by
  intro pins s σ H xs us Q I r h
  obtain ⟨p, vs, H0, rfl, hq, hS0, rd, q⟩ := h
  obtain ⟨u, rfl, rx⟩ := vals1 r
  cases rx
  obtain ⟨its, r', pl, hz⟩ := I.list hq
  have T := tri_of rd r'
  have hlen : vs.length = its.length := r'.length
  have ra : AtL s.heap ds its := (rd.same hS0).at I (by rw [List.all_eq_true]; exact O.pl) r'
  refine Calls.call_function_entry kind_sorted plain_sorted entry_sorted (args_sorted1 _) ?_
  unfold Builtin.«sorted»
  refine wpAny_bind (m := checkCount "sorted" 1 1 _) (wpAny_pure ?_)
  refine wpAny_bind (collect_list pl.isList ?_ (by omega))
  refine wpAny_bind (wpAny_newList ?_ (by omega))
  have hsz : ((s.heap.push (seqObj "list" #[] 0)).update s.heap.objs.size (Obj.mapSeq (· ++ its.toArray))).objs.size = s.heap.objs.size + 1 := by
    rw [Heap.size_update, size_push']
  have hoL : (((s.heap.push (seqObj "list" #[] 0)).update s.heap.objs.size (Obj.mapSeq (· ++ its.toArray))).push (seqObj "list" its.toArray 0)).get? (s.heap.objs.size + 1) = some (seqObj "list" its.toArray 0) := by
    rw [← hsz]; exact Heap.get?_push_size _ rfl
  have keep : ∀ b o, s.heap.get? b = some o → (((s.heap.push (seqObj "list" #[] 0)).update s.heap.objs.size (Obj.mapSeq (· ++ its.toArray))).push (seqObj "list" its.toArray 0)).get? b = some o := fun b o e => by
    have hlt : b < s.heap.objs.size := Heap.lt_size e
    rw [Heap.get?_push_ne _ _ _ (by rw [hsz]; exact Nat.ne_of_lt (Nat.lt_succ_of_lt hlt)), Heap.get?_update_ne _ _ _ _ (Nat.ne_of_lt hlt), Heap.get?_push_ne _ _ _ (Nat.ne_of_lt hlt)]
    exact e
  show wpAny _ _ _ _ _ { s with heap := ((s.heap.push (seqObj "list" #[] 0)).update s.heap.objs.size (Obj.mapSeq (· ++ its.toArray))).push (seqObj "list" its.toArray 0) }
  rw [hsz]
  refine wpAny_bind (wpAny_holding (wpAny_call_entry slot_list_sort ⟨_, hoL, rfl⟩ entry_list_sort (listSort_D (g := g) (ds := ds) hoL (ra.kept keep) (fun _ _ _ _ => trivial) (fun h' k => ra.kept fun b o e => k b o (Nat.ne_of_lt (Nat.lt_succ_of_lt (Heap.lt_size e))) (keep b o e)) O (by omega) (by show X.A.units + 1 + 1 + 8 < cLine; omega) fun out hp hs => ⟨_, rfl, ?_⟩) (args_list_sort _)))
  refine wpAny_pure ⟨_, rfl, ?_⟩
  obtain ⟨ds', vs', T', hpd⟩ := tri_perm hp T
  obtain ⟨rd', rv'⟩ := T'.rep
  have hz' : vs'.length ≤ sizeLine := by
    have e1 := rv'.length
    have e2 := hp.length_eq
    omega
  obtain ⟨ep, hat⟩ := sortedAll_at s.heap its out
  have hdat : ∀ u ∈ out.toList, datOf (((s.heap.push (seqObj "list" #[] 0)).update s.heap.objs.size (Obj.mapSeq (· ++ its.toArray))).push (seqObj "list" its.toArray 0)) u = datOf s.heap u := fun u hu' => by
    obtain ⟨d, hd, hr⟩ := ra.mem u (hp.mem_iff.mp hu')
    rw [datOf_eq (O.pl d hd) hr, datOf_eq (O.pl d hd) (hr.kept keep)]
  have hs' : (ds'.map g).Pairwise (fun x y => HT.lexLt y x = false) := by
    rw [← tri_dat I (T'.same hS0) (fun d hd => O.pl d (hpd.mem_iff.mp hd))]
    have e : out.toList.map (fun u => g (datOf s.heap u)) = out.toList.map (fun u => g (datOf (((s.heap.push (seqObj "list" #[] 0)).update s.heap.objs.size (Obj.mapSeq (· ++ its.toArray))).push (seqObj "list" its.toArray 0)) u)) :=
      List.map_congr_left fun u hu' => by rw [hdat u hu']
    rw [e]
    exact hs
  refine ⟨.ref (s.heap.objs.size + 1), upd H (s.heap.objs.size + 1) (.lst vs'), ?_, rfl, q _ ds' vs' ?_ rd' hpd hs'⟩
  · refine I.laid (t' := s.toks) (o := .lst vs') (fun b o e => sortedAll_old e) (Nat.le_succ _) ?_
    exact ⟨hz', out.toList, ep, rv', by rw [Array.toArray_toList]; exact hat⟩
  · exact I.hok.fresh (Nat.le_succ _)
theorem px_sorted {pp : Pos} (g : Dat → List Int) (hu : X.A.units + 20 < cLine) (hm : X.mg "sorted" = none) (ha : PX X ρ G a d1) (hl : d1 = .lst l ∨ ∃ p, d1 = .fn p ∧ G p = some (.lst l)) (O : OrdL g l) (hq : ∀ l', l'.Perm l → (l'.map g).Pairwise (fun x y => HT.lexLt y x = false) → l' = m)
    (hg : Gl X "sorted" := by rfl) (he : starEach [a] X.env = (false, eval a X.env) :: starEach [] X.env := by rfl) : PX X ρ G (.Call (.Name "sorted" pp) [a] [] pos) (.lst m) :=
  px_call1 (call_sortedD g l O hu) hg hm (by decide +kernel) ha (fun H x Q o r k => by
    have : ∃ p vs, x = .ref p ∧ SqL X.K H p vs ∧ RepL X.K (hid H G) l vs := by
      rcases hl with rfl | ⟨p, rfl, hG⟩
      · rw [Rep] at r
        obtain ⟨p, vs, e, h1, h2⟩ := r
        exact ⟨p, vs, e, SqL.of (hid_le _ _ h1), h2⟩
      · obtain ⟨vs, h1, h2⟩ := o p _ hG
        exact ⟨p, vs, r, SqL.of h1, h2⟩
    obtain ⟨p, vs, e, h1, h2⟩ := this
    refine ⟨p, vs, hid H G, by rw [e], h1, hid_le, h2, fun q ds' vs' hq' r' hp' hs' => ?_⟩
    obtain rfl := hq ds' hp' hs'
    exact k _ _ (new_lst o hq' r')) (he := he)
end
end TF
namespace TF
open PySem PySem.Spec L2
open PyProof.Rows hiding St RelV
mutual
def flat : Dat → List Int
  | .int i => [i]
  | .tup l => flatL l
  | _ => []
def flatL : List Dat → List Int
  | [] => []
  | d :: r => flat d ++ flatL r
end
abbrev lx : List Int → List Int → Bool := HT.lexLt
theorem lx_app (a b c : List Int) : lx (a ++ b) (a ++ c) = lx b c := by
  induction a with
  | nil => rfl
  | cons x a ih => show HT.lexLt (x :: (a ++ b)) (x :: (a ++ c)) = _; rw [HT.lexLt_cons, if_pos rfl]; exact ih
theorem lx_ne : ∀ {a a' : List Int} (b c : List Int), a.length = a'.length → a ≠ a' → lx (a ++ b) (a' ++ c) = lx a a'
  | [], [], _, _, _, h => absurd rfl h
  | [], _ :: _, _, _, h, _ => by simp at h
  | _ :: _, [], _, _, h, _ => by simp at h
  | x :: a, y :: a', b, c, hl, hn => by
    show HT.lexLt (x :: (a ++ b)) (y :: (a' ++ c)) = HT.lexLt (x :: a) (y :: a')
    rw [HT.lexLt_cons, HT.lexLt_cons]
    by_cases e : x = y
    · subst e
      rw [if_pos rfl, if_pos rfl]
      exact lx_ne b c (by simpa using hl) fun z => hn (by rw [z])
    · rw [if_neg e, if_neg e]
structure FlD (c : Nat) (x y : Dat) : Prop where
  lx : (flat x).length = c
  ly : (flat y).length = c
  eq : eqD x y = decide (flat x = flat y)
  lt : cmpD true x y = TF.lx (flat x) (flat y)
theorem flD_list {c : Nat} (hc : 0 < c) : ∀ (l m : List Dat), (∀ x ∈ l, ∀ y ∈ m, FlD c x y) → (∀ x ∈ l, (flat x).length = c) → (∀ y ∈ m, (flat y).length = c) → cmpL true l m = lx (flatL l) (flatL m) ∧ eqL l m = decide (flatL l = flatL m)
  | [], [], _, _, _ => ⟨rfl, rfl⟩
  | [], y :: m, _, _, h2 => by
    have := h2 y (List.mem_cons_self ..)
    have hne : flatL (y :: m) ≠ [] := by
      intro e
      rw [flatL] at e
      have := congrArg List.length e
      simp at this
      simp [this] at *
      omega
    obtain ⟨z, t, e⟩ := List.exists_cons_of_ne_nil hne
    constructor
    · rw [cmpL, flatL, e]; rfl
    · rw [show eqL [] (y :: m) = false from rfl, show flatL ([] : List Dat) = [] from rfl, e]; rfl
  | x :: l, [], _, h1, _ => by
    have := h1 x (List.mem_cons_self ..)
    have hne : flatL (x :: l) ≠ [] := by
      intro e
      rw [flatL] at e
      have := congrArg List.length e
      simp at this
      simp [this] at *
      omega
    obtain ⟨z, t, e⟩ := List.exists_cons_of_ne_nil hne
    constructor
    · rw [cmpL, e]; rfl
    · rw [show eqL (x :: l) [] = false from rfl, e]; rfl
  | x :: l, y :: m, h, h1, h2 => by
    have F := h x (List.mem_cons_self ..) y (List.mem_cons_self ..)
    obtain ⟨i1, i2⟩ := flD_list hc l m (fun x hx y hy => h x (List.mem_cons_of_mem _ hx) y (List.mem_cons_of_mem _ hy)) (fun x hx => h1 x (List.mem_cons_of_mem _ hx)) fun y hy => h2 y (List.mem_cons_of_mem _ hy)
    rw [cmpL, eqL, flatL, flatL, F.eq, F.lt, i1, i2]
    by_cases e : flat x = flat y
    · rw [decide_eq_true e, if_pos rfl, e]
      refine ⟨(lx_app _ _ _).symm, ?_⟩
      rw [Bool.true_and]
      simp
    · rw [decide_eq_false e, if_neg (by decide)]
      refine ⟨(lx_ne _ _ (by rw [F.lx, F.ly]) e).symm, ?_⟩
      rw [Bool.false_and]
      refine (decide_eq_false fun z => e ?_).symm
      exact (List.append_inj z (by rw [F.lx, F.ly])).1
theorem flD_tup {c k : Nat} (hc : 0 < c) {l m : List Dat} (h : ∀ x ∈ l, ∀ y ∈ m, FlD c x y) (h1 : ∀ x ∈ l, (flat x).length = c) (h2 : ∀ y ∈ m, (flat y).length = c) (hk1 : (flatL l).length = k) (hk2 : (flatL m).length = k) : FlD k (.tup l) (.tup m) := by
  obtain ⟨i1, i2⟩ := flD_list hc l m h h1 h2
  exact ⟨by rw [flat]; exact hk1, by rw [flat]; exact hk2, by rw [eqD, flat, flat]; exact i2, by rw [cmpD, flat, flat]; exact i1⟩
theorem flD_int (i j : Int) : FlD 1 (.int i) (.int j) := by
  refine ⟨rfl, rfl, ?_, ?_⟩
  · simp only [eqD, flat]
    rw [Bool.eq_iff_iff]; simp
  · rw [cmpD, flat, flat]
    show _ = HT.lexLt [i] [j]
    rw [HT.lexLt_cons]
    by_cases e : i = j
    · subst e; simp; rfl
    · rw [if_neg e]; rfl
theorem flD_sq (p q : Sq) : FlD 2 (sq p) (sq q) := by
  refine flD_tup (c := 1) (by decide) ?_ ?_ ?_ rfl rfl
  · intro x hx y hy
    simp only [List.mem_cons, List.not_mem_nil, or_false] at hx hy
    rcases hx with rfl | rfl <;> rcases hy with rfl | rfl <;> exact flD_int _ _
  · intro x hx
    simp only [List.mem_cons, List.not_mem_nil, or_false] at hx
    rcases hx with rfl | rfl <;> rfl
  · intro x hx
    simp only [List.mem_cons, List.not_mem_nil, or_false] at hx
    rcases hx with rfl | rfl <;> rfl
theorem flD_stone (p q : Sq × Sq) : FlD 4 (stone p) (stone q) := by
  refine flD_tup (c := 2) (by decide) ?_ ?_ ?_ rfl rfl
  · intro x hx y hy
    simp only [List.mem_cons, List.not_mem_nil, or_false] at hx hy
    rcases hx with rfl | rfl <;> rcases hy with rfl | rfl <;> exact flD_sq _ _
  · intro x hx
    simp only [List.mem_cons, List.not_mem_nil, or_false] at hx
    rcases hx with rfl | rfl <;> rfl
  · intro x hx
    simp only [List.mem_cons, List.not_mem_nil, or_false] at hx
    rcases hx with rfl | rfl <;> rfl
abbrev Stone := Sq × Sq
abbrev Lay := List Stone
def lay (L : Lay) : Dat := .tup (L.map stone)
theorem lay_cmp (L M : Lay) : cmpD true (lay L) (lay M) = lx (flat (lay L)) (flat (lay M)) ∧ eqD (lay L) (lay M) = decide (flat (lay L) = flat (lay M)) := by
  have := flD_list (c := 4) (by decide) (L.map stone) (M.map stone) (fun x hx y hy => by
    obtain ⟨p, _, rfl⟩ := List.mem_map.mp hx
    obtain ⟨q, _, rfl⟩ := List.mem_map.mp hy
    exact flD_stone p q) (fun x hx => by obtain ⟨p, _, rfl⟩ := List.mem_map.mp hx; rfl) fun x hx => by obtain ⟨p, _, rfl⟩ := List.mem_map.mp hx; rfl
  simp only [lay, cmpD, eqD, flat]
  exact this
theorem stone_inj {p q : Stone} (h : stone p = stone q) : p = q := by
  obtain ⟨a, b⟩ := p
  obtain ⟨c, d⟩ := q
  simp only [stone, Dat.tup.injEq, List.cons.injEq, and_true] at h
  rw [sq_inj h.1, sq_inj h.2]
theorem flat_sq_inj {p q : Sq} (h : flat (sq p) = flat (sq q)) : p = q := by
  obtain ⟨a, b⟩ := p
  obtain ⟨c, d⟩ := q
  simp [sq, flat, flatL] at h
  rw [h.1, h.2]
theorem flat_stone_inj {p q : Stone} (h : flat (stone p) = flat (stone q)) : p = q := by
  obtain ⟨⟨a, b⟩, a', b'⟩ := p
  obtain ⟨⟨c, d⟩, c', d'⟩ := q
  simp [stone, sq, flat, flatL] at h
  obtain ⟨rfl, rfl, rfl, rfl⟩ := h
  rfl
theorem flat_lay_inj : ∀ {L M : Lay}, flat (lay L) = flat (lay M) → L = M
  | [], [], _ => rfl
  | [], _ :: _, h => by simp [lay, flat, flatL, stone, sq] at h
  | _ :: _, [], h => by simp [lay, flat, flatL, stone, sq] at h
  | p :: L, q :: M, h => by
    have h' : flat (stone p) ++ flat (lay L) = flat (stone q) ++ flat (lay M) := h
    obtain ⟨h1, h2⟩ := List.append_inj h' (by rw [(flD_stone p q).lx, (flD_stone p q).ly])
    rw [flat_stone_inj h1, flat_lay_inj h2]
structure TyD (α : Type) where
  f : α → Dat
  inj : ∀ {x y}, flat (f x) = flat (f y) → x = y
  lt : ∀ x y, cmpD true (f x) (f y) = lx (flat (f x)) (flat (f y))
  eq : ∀ x y, eqD (f x) (f y) = decide (flat (f x) = flat (f y))
  pl : ∀ x, plainD 8 (f x) = true
  ord : ∀ x y, ordC 8 (f x) (f y) = true
section
variable {α : Type} (T : TyD α)
def TyD.le (x y : α) : Bool := !lx (flat (T.f y)) (flat (T.f x))
def TyD.lt' (x y : α) : Prop := lx (flat (T.f x)) (flat (T.f y)) = true
def TyD.sort (l : List α) : List α := l.mergeSort T.le
theorem TyD.sort_perm (l : List α) : (T.sort l).Perm l := List.mergeSort_perm l _
theorem TyD.le_trans (x y z : α) (h1 : T.le x y = true) (h2 : T.le y z = true) : T.le x z = true := by
  unfold TyD.le at *
  simp only [Bool.not_eq_true'] at *
  cases e : lx (flat (T.f z)) (flat (T.f x)) with
  | false => rfl
  | true =>
    rcases lexLt_nt (b := flat (T.f y)) e with q | q
    · rw [show lx = HT.lexLt from rfl] at h2; rw [h2] at q; cases q
    · rw [show lx = HT.lexLt from rfl] at h1; rw [h1] at q; cases q
theorem TyD.le_total (x y : α) : (T.le x y || T.le y x) = true := by
  unfold TyD.le
  cases e : lx (flat (T.f y)) (flat (T.f x)) with
  | false => rfl
  | true =>
    cases e2 : lx (flat (T.f x)) (flat (T.f y)) with
    | false => rfl
    | true =>
      have := lexLt_tr e e2
      rw [lexLt_irr] at this
      cases this
theorem TyD.sort_sorted (l : List α) : (T.sort l).Pairwise fun x y => T.le x y = true := List.pairwise_mergeSort T.le_trans T.le_total l
theorem TyD.uniq : ∀ {l m : List α}, l.Perm m → l.Pairwise (fun x y => T.le x y = true) → m.Pairwise (fun x y => T.le x y = true) → l = m
  | [], m, p, _, _ => by rw [List.nil_perm.mp p]
  | x :: l, [], p, _, _ => by have := p.length_eq; simp at this
  | x :: l, y :: m, p, h1, h2 => by
    obtain ⟨a1, a2⟩ := List.pairwise_cons.mp h1
    obtain ⟨b1, b2⟩ := List.pairwise_cons.mp h2
    have hxy : x = y := by
      have hx : x ∈ y :: m := p.mem_iff.mp (List.mem_cons_self ..)
      have hy : y ∈ x :: l := p.mem_iff.mpr (List.mem_cons_self ..)
      rcases List.mem_cons.mp hx with e | hx
      · exact e
      rcases List.mem_cons.mp hy with e | hy
      · exact e.symm
      have q1 := a1 y hy
      have q2 := b1 x hx
      unfold TyD.le at q1 q2
      simp only [Bool.not_eq_true'] at q1 q2
      exact T.inj (lexLt_tot q2 q1)
    subst hxy
    rw [TyD.uniq (List.perm_cons _ |>.mp p) a2 b2]
end
theorem ord_of {α : Type} (T : TyD α) (l : List α) (one : (∀ x, ∃ i r, T.f x = .tup (.int i :: r)) ∨ ∀ x, x ∈ l → ∃ k r, T.f x = .tup (.tup k :: r)) : OrdL flat (l.map T.f) := by
  refine ⟨fun x hx y hy => ?_, fun x hx y hy => ?_, fun x hx => ?_, fun x hx => ?_, ?_⟩
  · obtain ⟨p, _, rfl⟩ := List.mem_map.mp hx; obtain ⟨q, _, rfl⟩ := List.mem_map.mp hy; exact T.lt p q
  · obtain ⟨p, _, rfl⟩ := List.mem_map.mp hx; obtain ⟨q, _, rfl⟩ := List.mem_map.mp hy; exact T.ord p q
  · obtain ⟨p, _, rfl⟩ := List.mem_map.mp hx; exact T.pl p
  · obtain ⟨p, hp, rfl⟩ := List.mem_map.mp hx
    rcases one with o | o
    · obtain ⟨i, r, e⟩ := o p; exact ⟨_, _, e⟩
    · obtain ⟨i, r, e⟩ := o p hp; exact ⟨_, _, e⟩
  · rcases one with o | o
    · exact .inl fun x hx => by obtain ⟨p, _, rfl⟩ := List.mem_map.mp hx; exact o p
    · exact .inr fun x hx => by obtain ⟨p, hp, rfl⟩ := List.mem_map.mp hx; exact o p hp
theorem perm_map {α : Type} (f : α → Dat) : ∀ {l' : List Dat} {l : List α}, l'.Perm (l.map f) → ∃ m : List α, l' = m.map f ∧ m.Perm l := by
  intro l' l p
  have : ∀ {a b : List Dat}, a.Perm b → ∀ l : List α, b = l.map f → ∃ m : List α, a = m.map f ∧ m.Perm l := by
    intro a b p
    induction p with
    | nil => intro l e; exact ⟨[], rfl, by cases l with | nil => exact .refl _ | cons _ _ => simp at e⟩
    | cons x p ih =>
      intro l e
      cases l with
      | nil => simp at e
      | cons y l =>
        rw [List.map_cons] at e
        obtain ⟨rfl, e2⟩ := List.cons.inj e
        obtain ⟨m, h1, h2⟩ := ih l e2
        exact ⟨y :: m, by rw [h1]; rfl, h2.cons _⟩
    | swap x y r =>
      intro l e
      match l, e with
      | y' :: x' :: l, e =>
        simp only [List.map_cons, List.cons.injEq] at e
        obtain ⟨rfl, rfl, rfl⟩ := e
        exact ⟨x' :: y' :: l, rfl, .swap ..⟩
      | [], e => simp at e
      | [_], e => simp at e
    | trans p1 p2 i1 i2 =>
      intro l e
      obtain ⟨m, h1, h2⟩ := i2 l e
      obtain ⟨m2, h3, h4⟩ := i1 m h1
      exact ⟨m2, h3, h4.trans h2⟩
  exact this p l rfl
section
variable {X : Cx} {ρ : Rho} {G : Gs} {a : Expr} {d1 : Dat} {pos : Pos}
theorem px_sortedT {α : Type} (T : TyD α) (l : List α) {pp : Pos} (hu : X.A.units + 20 < cLine) (hm : X.mg "sorted" = none) (ha : PX X ρ G a d1) (hl : d1 = .lst (l.map T.f) ∨ ∃ p, d1 = .fn p ∧ G p = some (.lst (l.map T.f))) (one : (∀ x, ∃ i r, T.f x = .tup (.int i :: r)) ∨ ∀ x, x ∈ l → ∃ k r, T.f x = .tup (.tup k :: r))
    (hg : Gl X "sorted" := by rfl) (he : starEach [a] X.env = (false, eval a X.env) :: starEach [] X.env := by rfl) : PX X ρ G (.Call (.Name "sorted" pp) [a] [] pos) (.lst ((T.sort l).map T.f)) :=
  px_sorted flat hu hm ha hl (ord_of T l one) (fun l' hp hs => by
    obtain ⟨m, rfl, hm'⟩ := perm_map T.f hp
    rw [TyD.uniq T (hm'.trans (T.sort_perm l).symm) ?_ (T.sort_sorted l)]
    rw [List.map_map, List.pairwise_map] at hs
    refine hs.imp fun {x y} h => ?_
    unfold TyD.le
    have : lx (flat (T.f y)) (flat (T.f x)) = false := h
    rw [this]; rfl) hg he
end
def TSq : TyD Sq := ⟨sq, flat_sq_inj, fun x y => (flD_sq x y).lt, fun x y => (flD_sq x y).eq, fun x => plain_sq x 7, fun _ _ => rfl⟩
theorem plain_stone (p : Stone) : plainD 8 (stone p) = true := by
  simp only [stone, plainD, List.all_cons, List.all_nil, Bool.and_true, Bool.and_eq_true]
  exact ⟨plain_sq _ 6, plain_sq _ 6⟩
def TSt : TyD Stone := ⟨stone, flat_stone_inj, fun x y => (flD_stone x y).lt, fun x y => (flD_stone x y).eq, plain_stone, fun _ _ => rfl⟩
theorem plain_lay (L : Lay) : plainD 8 (lay L) = true := by
  simp only [lay, plainD, List.all_eq_true]
  intro x hx
  obtain ⟨p, _, rfl⟩ := List.mem_map.mp hx
  simp only [stone, plainD, List.all_cons, List.all_nil, Bool.and_true, Bool.and_eq_true]
  exact ⟨plain_sq _ 5, plain_sq _ 5⟩
theorem ord_lay (L M : Lay) : ordC 8 (lay L) (lay M) = true := by
  simp only [lay, ordC, List.all_eq_true]
  intro x hx
  have := List.of_mem_zip (show (x.1, x.2) ∈ _ from hx)
  obtain ⟨p, _, e1⟩ := List.mem_map.mp this.1
  obtain ⟨q, _, e2⟩ := List.mem_map.mp this.2
  rw [← e1, ← e2]
  rfl
def TLay : TyD Lay := ⟨lay, flat_lay_inj, fun x y => (lay_cmp x y).1, fun x y => (lay_cmp x y).2, plain_lay, ord_lay⟩
end TF
namespace TF
open PySem PySem.Spec L2
open PyProof.Rows hiding St RelV
theorem items_eqAt {s : Shared} {A : Around} {n : Nat} (hu : A.units + 1 + n < cLine) {l m : List Dat} {is js : List Value} (hl : l.all (plainD n) = true) (hm : m.all (plainD n) = true) (rl : AtL s.heap l is) (rm : AtL s.heap m js) :
    ∀ j (h1 : j < is.toArray.size) (h2 : j < js.toArray.size), SeqAt.EqAt A.in1 s is.toArray[j] js.toArray[j] ((fun j => match l[j]?, m[j]? with | some x, some y => eqD x y | _, _ => true) j) := by
  intro j h1 h2
  have h1' : j < is.length := by simpa using h1
  have h2' : j < js.length := by simpa using h2
  have l1 : j < l.length := by rw [← rl.length]; exact h1'
  have l2 : j < m.length := by rw [← rm.length]; exact h2'
  obtain ⟨u1, f1, q1⟩ := rl.get (List.getElem?_eq_getElem l1)
  obtain ⟨u2, f2, q2⟩ := rm.get (List.getElem?_eq_getElem l2)
  rw [List.getElem?_eq_getElem h1'] at f1
  rw [List.getElem?_eq_getElem h2'] at f2
  cases f1
  cases f2
  have hx : plainD n l[j] = true := List.all_eq_true.mp hl _ (List.getElem_mem l1)
  have hy : plainD n m[j] = true := List.all_eq_true.mp hm _ (List.getElem_mem l2)
  have := (eqAt_D (A := A.in1) n hx hy q1 q2 hu).1
  simpa [List.getElem?_eq_getElem l1, List.getElem?_eq_getElem l2] using this
def alike : Dat → Dat → Bool
  | .tup _, .tup _ => true
  | .lst _, .lst _ => true
  | .int _, .int _ => true
  | .str _, .str _ => true
  | .bl _, .bl _ => true
  | _, _ => false
theorem neAt_D {s : Shared} {A : Around} {d e : Dat} {u v : Value} (ha : alike d e = true) (hd : plainD 9 d = true) (he : plainD 9 e = true) (rd : AtH s.heap d u) (re : AtH s.heap e v) (hu : A.units + 9 < cLine) : SeqAt.RcNeAt A s u v (!eqD d e) := by
  cases d <;> cases e <;> simp only [alike, Bool.false_eq_true] at ha <;> rw [AtH] at rd re
  · subst rd; subst re; simp only [eqD]; exact SeqAt.RcNeAt.bool_bool _ _
  · obtain ⟨t, rfl⟩ := rd; obtain ⟨t', rfl⟩ := re; simp only [eqD]; exact SeqAt.RcNeAt.int_int _ _ _ _
  · obtain ⟨t, rfl⟩ := rd; obtain ⟨t', rfl⟩ := re; simp only [eqD]; exact SeqAt.RcNeAt.str_str _ _ _ _
  · rename_i l m
    obtain ⟨a, is, rfl, ti, rl⟩ := rd
    obtain ⟨b, js, rfl, tj, rm⟩ := re
    have := SeqAt.RcNeAt.tuples (A := A) ti tj (by omega) (items_eqAt (n := 8) (by omega) (by simpa [plainD] using hd) (by simpa [plainD] using he) rl rm)
    rw [eqD, eqL_range]
    rw [List.size_toArray, List.size_toArray, rl.length, rm.length] at this
    exact this
  · rename_i l m
    obtain ⟨a, is, rfl, ti, rl⟩ := rd
    obtain ⟨b, js, rfl, tj, rm⟩ := re
    have e1 : is.toArray.size = l.length := by rw [List.size_toArray, rl.length]
    have e2 : js.toArray.size = m.length := by rw [List.size_toArray, rm.length]
    rw [eqD, eqL_range]
    by_cases hsz : l.length = m.length
    · have := SeqAt.RcNeAt.lists (A := A) ti tj (by rw [e1, e2, hsz]) (by omega) (items_eqAt (n := 8) (by omega) (by simpa [plainD] using hd) (by simpa [plainD] using he) rl rm)
      rw [e1] at this
      rw [hsz, Nat.min_self, beq_self_eq_true, Bool.and_true, ← hsz]
      exact this
    · have := SeqAt.RcNeAt.lists_lengths (A := A) ti tj (by rw [e1, e2]; simpa using hsz) (by omega)
      rw [show (l.length == m.length) = false by simpa using hsz, Bool.and_false]
      exact this
section
variable {X : Cx} {ρ : Rho} {G : Gs} {e a b c : Expr} {es : List Expr} {d d' d1 d2 d3 k : Dat} {ds l m : List Dat} {pos : Pos} {i j z : Int} {p : Addr} {D : DE} {rest body : List Stmt}
theorem op_neD (hu : X.A.units + 9 < cLine) : OpR X (compareOp .NotEq) (fun x y H Q => ∃ d e, Rep X.K H d x ∧ Rep X.K H e y ∧ alike d e = true ∧ plainD 9 d = true ∧ plainD 9 e = true ∧ Q (.bl (!eqD d e)) H) := by
  intro pins s σ H x y v u Q I rx ry h
  obtain ⟨d, e, h1, h2, h3, h4, h5, q⟩ := h
  exact neAt_D h3 h4 h5 (h1.at I h4 rx) (h2.at I h5 ry) hu _ _ _ _ ⟨.bl _, H, I, rfl, q⟩
theorem op_cmpD (st : Bool) (hu : X.A.units + 9 < cLine) : OpR X (compareOp (opOf st)) (fun x y H Q => ∃ d e, Rep X.K H d x ∧ Rep X.K H e y ∧ ordC 9 d e = true ∧ plainD 9 d = true ∧ plainD 9 e = true ∧ Q (.bl (cmpD st d e)) H) := by
  intro pins s σ H x y v u Q I rx ry h
  obtain ⟨d, e, h1, h2, h3, h4, h5, q⟩ := h
  have := ltAt_D (A := X.A) (s := s) st 9 h3 h4 h5 (h1.at I h4 rx) (h2.at I h5 ry) hu X.prog X.w X.xe (EP X pins σ Q) ⟨.bl _, H, I, rfl, q⟩
  cases st with
  | true => exact this
  | false => exact this
theorem pxc_neD (hu : X.A.units + 9 < cLine) (ha : PX X ρ G a d1) (hb : PX X ρ G b d2) (h : alike d1 d2 = true) (p1 : plainD 9 d1 = true) (p2 : plainD 9 d2 = true) : PXC X ρ G .NotEq a b (.bl (!eqD d1 d2)) :=
  pxc_op (op_neD hu) ha hb fun H x y Q o hx hy k => ⟨d1, d2, hx.same hid_le, hy.same hid_le, h, p1, p2, k _ _ (po1' o rfl)⟩
theorem pxc_ltD (hu : X.A.units + 9 < cLine) (ha : PX X ρ G a d1) (hb : PX X ρ G b d2) (h : ordC 9 d1 d2 = true) (p1 : plainD 9 d1 = true) (p2 : plainD 9 d2 = true) : PXC X ρ G .Lt a b (.bl (cmpD true d1 d2)) :=
  pxc_op (op_cmpD true hu) ha hb fun H x y Q o hx hy k => ⟨d1, d2, hx.same hid_le, hy.same hid_le, h, p1, p2, k _ _ (po1' o rfl)⟩
theorem pxc_leD (hu : X.A.units + 9 < cLine) (ha : PX X ρ G a d1) (hb : PX X ρ G b d2) (h : ordC 9 d1 d2 = true) (p1 : plainD 9 d1 = true) (p2 : plainD 9 d2 = true) : PXC X ρ G .LtE a b (.bl (cmpD false d1 d2)) :=
  pxc_op (op_cmpD false hu) ha hb fun H x y Q o hx hy k => ⟨d1, d2, hx.same hid_le, hy.same hid_le, h, p1, p2, k _ _ (po1' o rfl)⟩
theorem we_catE {Q : Dat → Gs → Prop} (ha : PX X ρ G a (.lst l)) (hb : WE X ρ G b fun d G' => ∃ m, d = .lst m ∧ l.length + m.length ≤ sizeLine ∧ Q (.lst (l ++ m)) G') : WE X ρ G (.BinOp a .Add b pos) Q :=
  we_pe (pe_op op_cat pe_we pe_we) fun σ H S => ⟨ρ, G, _, ha, S, fun x H1 ⟨_, _, e1, o1, r1, q1, q1'⟩ => by
    subst q1; subst q1'
    refine ⟨ρ, _, _, hb, S.ext e1 o1, fun y H2 ⟨d2, G2, e2, o2, r2, m, hm, hz, q⟩ => ?_⟩
    subst hm
    have r1' := r1.same e2.hid
    rw [Rep] at r1' r2
    obtain ⟨p1, vs1, rfl, h1, s1⟩ := r1'
    obtain ⟨p2, vs2, rfl, h2, s2⟩ := r2
    refine ⟨p1, p2, vs1, vs2, rfl, rfl, hid_le _ _ h1, hid_le _ _ h2, by rw [s1.length, s2.length]; exact hz, fun t ht => ?_⟩
    have E3 : Ext H2 G2 (upd H2 t (.lst (vs1 ++ vs2))) G2 := Ext.alloc ht
    refine ⟨.lst (l ++ m), G2, (e1.trans e2).trans E3, o2.alloc ht, ?_, q⟩
    rw [Rep]
    exact ⟨t, vs1 ++ vs2, rfl, hid_of (o2.free ht) upd_same, (s1.append s2).same E3.hid⟩⟩
end
section
variable {X : Cx} {ρ : Rho} {G : Gs} {elt target iter c : Expr} {scope : Scope} {cpos : Pos} {Nc : List Str} {caps : List (Option Nat)} {l : List Dat} {f : Dat → Rho → Option Rho}
theorem we_compR (g : Dat → Dat) (R : Gs → Prop) {Q : Dat → Gs → Prop} (Sc : CompSc X scope Nc caps) (hcalm : X.calm = true) (hi : WI X ρ G target iter fun l' G' => l' = l ∧ R G')
    (hg : ∀ C s' H' fp, PGD (compCx X Nc scope C s' H' fp) target f) (hle : ∀ d ρ', f d (pick caps ρ) = some ρ' → ρ'.length = (pick caps ρ).length ∧ ∀ (j : Nat) e, (pick caps ρ)[j]? = some (some e) → ρ'[j]? = some (some e)) (hz : l.length < sizeLine)
    (hstep : ∀ C s' H' fp G' d, d ∈ l → ∃ ρ', f d (pick caps ρ) = some ρ' ∧ PX (compCx X Nc scope C s' H' fp) ρ' G' elt (g d)) (hQ : ∀ G', R G' → Q (.lst (l.map g)) G') (hfs : ∀ x, foldedSetIterable iter X.env x = pure x := by intro _; rfl) :
    WE X ρ G (.ListComp elt [⟨target, iter, [], 0⟩] scope cpos) Q := by
  refine we_comp (Pv := fun i acc G' => R G' ∧ acc = (l.take i).map g) (turnIs_0 elt target iter scope cpos) Sc hcalm (fun pins s σ H I S => thn (hi pins s σ H I S) fun v s1 h1 => thn h1 fun itv s2 ⟨it, fp, tn, J, H', e, I', T, st, fk, l', G', e', o', wk, q1, q2⟩ => ⟨it, fp, tn, J, H', e, I', T, st, fk, l', G', e', o', wk, q1, q2, by simp⟩) hg hle (Nat.le_of_lt hz) ?_ ?_ hfs
  · rintro C s' H' fp Dd i d acc G' hd ⟨hR, rfl⟩ hD
    obtain ⟨ρ', h1, h2⟩ := hstep C s' H' fp (put G' Dd (.lst ((l.take i).map g))) d (List.mem_of_getElem? hd)
    refine ⟨ρ', h1, wtail_emit rfl put_same ?_ (PX.we h2 ⟨put_same, _, G', ?_, hD, put_put, hR, ?_⟩)⟩
    · have : ((l.take i).map g).length ≤ l.length := by rw [List.length_map, List.length_take]; omega
      omega
    · simp
    · rw [List.take_add_one, hd]
      simp
  · rintro acc G' ⟨hR, rfl⟩
    rw [List.take_length]
    exact hQ G' hR
end
end TF
namespace TF
open PySem PySem.Spec L2
open PyProof.Rows hiding St RelV
def remM (F : List Sq) (z o : Sq) : List Sq := F.filter fun x => !decide (x = z) && !decide (x = o)
def lastD (F : List Sq) : Sq := F.getLastD (0, 0)
def nearM (F : List Sq) (z : Sq) : List Sq := (nbM z).filter F.contains
def everyF : Nat → List Sq → List Lay
  | 0, F => if F = [] then [[]] else []
  | n + 1, F => if F = [] then [[]] else (nearM F (lastD F)).flatMap fun o => (everyF n (remM F (lastD F) o)).map (· ++ [(o, lastD F)])
def everyM (F : List Sq) : List Lay := everyF F.length F
theorem last_mem {F : List Sq} (h : F ≠ []) : lastD F ∈ F := by
  unfold lastD
  rw [List.getLastD_eq_getLast?, List.getLast?_eq_some_getLast h]
  exact List.getLast_mem h
theorem rem_len {F : List Sq} (h : F ≠ []) (o : Sq) : (remM F (lastD F) o).length < F.length := by
  unfold remM
  refine List.length_filter_lt_length_iff_exists.mpr ⟨_, last_mem h, by simp⟩
theorem everyF_eq : ∀ (n m : Nat) (F : List Sq), F.length ≤ n → F.length ≤ m → everyF n F = everyF m F
  | 0, 0, F, _, _ => rfl
  | 0, m + 1, F, h, _ => by
    have : F = [] := List.length_eq_zero_iff.mp (by omega)
    subst this; rfl
  | n + 1, 0, F, _, h => by
    have : F = [] := List.length_eq_zero_iff.mp (by omega)
    subst this; rfl
  | n + 1, m + 1, F, h1, h2 => by
    unfold everyF
    split
    · rfl
    · rename_i hne
      have : ∀ o, everyF n (remM F (lastD F) o) = everyF m (remM F (lastD F) o) := fun o => everyF_eq n m _ (by have := rem_len hne o; omega) (by have := rem_len hne o; omega)
      simp only [this]
theorem everyM_nil : everyM [] = [[]] := rfl
theorem everyM_ne {F : List Sq} (h : F ≠ []) : everyM F = (nearM F (lastD F)).flatMap fun o => (everyM (remM F (lastD F) o)).map (· ++ [(o, lastD F)]) := by
  unfold everyM
  obtain ⟨n, hn⟩ : ∃ n, F.length = n + 1 := ⟨F.length - 1, by have := List.length_pos_iff.mpr h; omega⟩
  rw [hn]
  conv => lhs; unfold everyF
  rw [if_neg h]
  have : ∀ o, everyF n (remM F (lastD F) o) = everyF (remM F (lastD F) o).length (remM F (lastD F) o) := fun o => everyF_eq _ _ _ (by have := rem_len h o; omega) (Nat.le_refl _)
  simp only [this]
def sqsOf (l : Lay) : List Sq := l.flatMap fun s => [s.1, s.2]
structure Cov (F : List Sq) (l : Lay) : Prop where
  st : ∀ s ∈ l, sqLt s.1 s.2 ∧ s.2 ∈ nbM s.1
  pm : (sqsOf l).Perm F
theorem mem_sqs {l : Lay} {x : Sq} : x ∈ sqsOf l ↔ ∃ s ∈ l, x = s.1 ∨ x = s.2 := by
  unfold sqsOf
  simp [List.mem_flatMap]
theorem sqs_perm {l m : Lay} (h : l.Perm m) : (sqsOf l).Perm (sqsOf m) := h.flatMap_right _
theorem nb_symm {a b : Sq} (h : a ∈ nbM b) : b ∈ nbM a := by
  obtain ⟨a1, a2⟩ := a
  obtain ⟨b1, b2⟩ := b
  simp only [nbM, List.mem_cons, List.not_mem_nil, or_false, Prod.mk.injEq] at *
  rcases h with ⟨h1, h2⟩ | ⟨h1, h2⟩ | ⟨h1, h2⟩ | ⟨h1, h2⟩ <;> subst h1 h2
  · exact .inr (.inr (.inr ⟨(Int.sub_add_cancel _ _).symm, rfl⟩))
  · exact .inr (.inr (.inl ⟨rfl, (Int.sub_add_cancel _ _).symm⟩))
  · exact .inr (.inl ⟨rfl, (Int.add_sub_cancel _ _).symm⟩)
  · exact .inl ⟨(Int.add_sub_cancel _ _).symm, rfl⟩
theorem nb_ne {a b : Sq} (h : a ∈ nbM b) : a ≠ b := by
  rintro rfl
  obtain ⟨a1, a2⟩ := a
  simp only [nbM, List.mem_cons, List.not_mem_nil, or_false, Prod.mk.injEq] at h
  omega
theorem last_max {F : List Sq} (up : F.Pairwise sqLt) {x : Sq} (hx : x ∈ F) : x = lastD F ∨ sqLt x (lastD F) := by
  have h : F ≠ [] := List.ne_nil_of_mem hx
  unfold lastD
  rw [List.getLastD_eq_getLast?, List.getLast?_eq_some_getLast h, Option.getD_some]
  rw [← List.dropLast_concat_getLast h] at hx up
  rcases List.mem_append.mp hx with h1 | h1
  · right
    exact (List.pairwise_append.mp up).2.2 x h1 _ (by simp)
  · left; simpa using h1
theorem up_nd {F : List Sq} (up : F.Pairwise sqLt) : F.Nodup := up.imp fun {a b} hab e => by subst e; exact sqLt_irrefl _ hab
theorem mem_rem {F : List Sq} {z o x : Sq} : x ∈ remM F z o ↔ x ∈ F ∧ x ≠ z ∧ x ≠ o := by simp [remM]
theorem rem_perm {F : List Sq} (nd : F.Nodup) {z o : Sq} (hz : z ∈ F) (ho : o ∈ F) (hne : o ≠ z) : (o :: z :: remM F z o).Perm F := by
  rw [List.perm_ext_iff_of_nodup _ nd]
  · intro x
    simp only [List.mem_cons, mem_rem]
    by_cases h1 : x = o
    · subst h1; simp [ho]
    · by_cases h2 : x = z
      · subst h2; simp [hz]
      · simp [h1, h2]
  · refine List.nodup_cons.mpr ⟨?_, List.nodup_cons.mpr ⟨?_, nd.sublist List.filter_sublist⟩⟩
    · simp only [List.mem_cons, mem_rem]; rintro (h | h)
      · exact hne h
      · exact h.2.2 rfl
    · simp [mem_rem]
theorem rem_up {F : List Sq} (up : F.Pairwise sqLt) (z o : Sq) : (remM F z o).Pairwise sqLt := up.sublist List.filter_sublist
theorem mem_near {F : List Sq} {z o : Sq} : o ∈ nearM F z ↔ o ∈ nbM z ∧ o ∈ F := by simp [nearM]
theorem rem_len2 {F : List Sq} (up : F.Pairwise sqLt) {o : Sq} (h : F ≠ []) (ho : o ∈ nearM F (lastD F)) : (remM F (lastD F) o).length + 2 = F.length := by
  obtain ⟨h1, h2⟩ := mem_near.mp ho
  have := (rem_perm (up_nd up) (last_mem h) h2 (nb_ne h1)).length_eq
  simpa using this
theorem sqs_app (l m : Lay) : sqsOf (l ++ m) = sqsOf l ++ sqsOf m := by simp [sqsOf]
theorem every_cov : ∀ (n : Nat) {F : List Sq}, F.length ≤ n → F.Pairwise sqLt → ∀ r ∈ everyM F, Cov F r := by
  intro n
  induction n with
  | zero =>
    intro F hl up r hr
    have : F = [] := List.length_eq_zero_iff.mp (by omega)
    subst this
    rw [everyM_nil, List.mem_singleton] at hr
    subst hr
    exact ⟨by simp, .refl _⟩
  | succ n ih =>
    intro F hl up r hr
    by_cases h : F = []
    · subst h
      rw [everyM_nil, List.mem_singleton] at hr
      subst hr
      exact ⟨by simp, .refl _⟩
    rw [everyM_ne h, List.mem_flatMap] at hr
    obtain ⟨o, ho, hr⟩ := hr
    obtain ⟨r', hr', rfl⟩ := List.mem_map.mp hr
    have hl2 := rem_len2 up h ho
    obtain ⟨h1, h2⟩ := mem_near.mp ho
    have C := ih (by omega) (rem_up up _ _) r' hr'
    refine ⟨fun s hs => ?_, ?_⟩
    · rcases List.mem_append.mp hs with hs | hs
      · exact C.st s hs
      · rw [List.mem_singleton.mp hs]
        refine ⟨?_, nb_symm h1⟩
        rcases last_max up h2 with e | e
        · exact absurd e (nb_ne h1)
        · exact e
    · rw [sqs_app]
      show (sqsOf r' ++ [o, lastD F]).Perm F
      exact (List.perm_append_comm.trans (C.pm.append_left [o, lastD F])).trans (rem_perm (up_nd up) (last_mem h) h2 (nb_ne h1))
theorem every_all : ∀ (n : Nat) {F : List Sq} {l : Lay}, F.length ≤ n → F.Pairwise sqLt → Cov F l → ∃ r ∈ everyM F, r.Perm l := by
  intro n
  induction n with
  | zero =>
    intro F l hl up C
    have : F = [] := List.length_eq_zero_iff.mp (by omega)
    subst this
    have := C.pm.length_eq
    cases l with
    | nil => exact ⟨[], by simp [everyM_nil], .refl _⟩
    | cons s l => simp [sqsOf] at this
  | succ n ih =>
    intro F l hl up C
    by_cases h : F = []
    · subst h
      have := C.pm.length_eq
      cases l with
      | nil => exact ⟨[], by simp [everyM_nil], .refl _⟩
      | cons s l => simp [sqsOf] at this
    obtain ⟨s, hs, he⟩ := mem_sqs.mp (C.pm.mem_iff.mpr (last_mem h))
    have hs1 : s.1 ∈ F := C.pm.mem_iff.mp (mem_sqs.mpr ⟨s, hs, .inl rfl⟩)
    have hs2 : s.2 ∈ F := C.pm.mem_iff.mp (mem_sqs.mpr ⟨s, hs, .inr rfl⟩)
    obtain ⟨slt, snb⟩ := C.st s hs
    have hz : s.2 = lastD F := by
      rcases he with e | e
      · rcases last_max up hs2 with q | q
        · exact q
        · rw [e] at q; exact absurd (sqLt_trans slt q) (sqLt_irrefl _)
      · exact e.symm
    have ho : s.1 ∈ nearM F (lastD F) := mem_near.mpr ⟨hz ▸ nb_symm snb, hs1⟩
    have hp : l.Perm (s :: l.erase s) := List.perm_cons_erase hs
    have hp2 : (s.1 :: s.2 :: sqsOf (l.erase s)).Perm F := by
      refine List.Perm.trans ?_ C.pm
      exact (sqs_perm hp).symm
    have hl2 := rem_len2 up h ho
    have C' : Cov (remM F (lastD F) s.1) (l.erase s) := by
      refine ⟨fun t ht => C.st t (List.mem_of_mem_erase ht), ?_⟩
      have := hp2.trans (rem_perm (up_nd up) (last_mem h) hs1 (nb_ne (mem_near.mp ho).1)).symm
      rw [hz] at this
      exact (List.perm_cons _).mp ((List.perm_cons _).mp this)
    obtain ⟨r, hr, hrp⟩ := ih (by omega) (rem_up up _ _) C'
    refine ⟨r ++ [(s.1, lastD F)], ?_, ?_⟩
    · rw [everyM_ne h, List.mem_flatMap]
      exact ⟨s.1, ho, List.mem_map.mpr ⟨r, hr, rfl⟩⟩
    · rw [show (s.1, lastD F) = s by rw [← hz]]
      exact (List.perm_append_comm.trans (hrp.append_left [s])).trans hp.symm
theorem near_nd (F : List Sq) (z : Sq) : (nearM F z).Nodup := (nb_nodup z).sublist List.filter_sublist
theorem near_two {F : List Sq} (up : F.Pairwise sqLt) : (nearM F (lastD F)).length ≤ 2 := by
  have hs : ∀ x ∈ nearM F (lastD F), x ∈ [((lastD F).1 - 1, (lastD F).2), ((lastD F).1, (lastD F).2 - 1)] := by
    intro x hx
    obtain ⟨h1, h2⟩ := mem_near.mp hx
    rcases last_max up h2 with e | e
    · exact absurd e (nb_ne h1)
    · generalize lastD F = z at *
      obtain ⟨x1, x2⟩ := x
      obtain ⟨z1, z2⟩ := z
      simp only [nbM, List.mem_cons, List.not_mem_nil, or_false, Prod.mk.injEq] at h1 ⊢
      have e' : x1 < z1 ∨ (x1 = z1 ∧ x2 < z2) := e
      clear e h2 hx
      rcases h1 with h1 | h1 | ⟨h1, h3⟩ | ⟨h1, h3⟩
      · exact .inl h1
      · exact .inr h1
      · omega
      · omega
  have := nodup_le (near_nd F (lastD F)) hs
  simpa using this
theorem every_len : ∀ (n : Nat) {F : List Sq}, F.length ≤ 2 * n → F.Pairwise sqLt → (everyM F).length ≤ 2 ^ n := by
  intro n
  induction n with
  | zero =>
    intro F hl up
    have : F = [] := List.length_eq_zero_iff.mp (by omega)
    subst this
    rw [everyM_nil]; exact Nat.le_refl _
  | succ n ih =>
    intro F hl up
    by_cases h : F = []
    · subst h; rw [everyM_nil]; exact Nat.one_le_two_pow
    rw [everyM_ne h, List.length_flatMap]
    have : ∀ (l : List Sq), (∀ o ∈ l, o ∈ nearM F (lastD F)) → (l.map fun o => ((everyM (remM F (lastD F) o)).map (· ++ [(o, lastD F)])).length).sum ≤ l.length * 2 ^ n := by
      intro l
      induction l with
      | nil => simp
      | cons o l ihl =>
        intro hm
        have h1 := ihl fun x hx => hm x (List.mem_cons_of_mem _ hx)
        have hl2 := rem_len2 up h (hm o (List.mem_cons_self ..))
        have h2 := ih (F := remM F (lastD F) o) (by omega) (rem_up up _ o)
        rw [List.map_cons, List.sum_cons, List.length_map, List.length_cons, Nat.succ_mul]
        omega
    have h3 := this _ fun _ h => h
    have h4 := Nat.mul_le_mul_right (2 ^ n) (near_two up)
    rw [Nat.pow_succ, Nat.mul_comm]
    omega
theorem lx_stone (s t : Stone) : lx (flat (stone s)) (flat (stone t)) = decide (sqLt s.1 t.1 ∨ (s.1 = t.1 ∧ sqLt s.2 t.2)) := by
  obtain ⟨⟨a, b⟩, c, d⟩ := s
  obtain ⟨⟨a', b'⟩, c', d'⟩ := t
  show HT.lexLt [a, b, c, d] [a', b', c', d'] = _
  rw [HT.lexLt_cons, HT.lexLt_cons, HT.lexLt_cons, HT.lexLt_cons]
  have e0 : HT.lexLt [] [] = false := rfl
  rw [e0, Bool.eq_iff_iff, decide_eq_true_iff]
  simp only [sqLt, Prod.mk.injEq]
  by_cases h1 : a = a' <;> by_cases h2 : b = b' <;> by_cases h3 : c = c' <;> by_cases h4 : d = d' <;> simp [h1, h2, h3, h4] <;> omega
theorem lx_sq (s t : Sq) : lx (flat (sq s)) (flat (sq t)) = decide (sqLt s t) := by
  obtain ⟨a, b⟩ := s
  obtain ⟨a', b'⟩ := t
  show HT.lexLt [a, b] [a', b'] = _
  rw [HT.lexLt_cons, HT.lexLt_cons]
  have e0 : HT.lexLt [] [] = false := rfl
  rw [e0, Bool.eq_iff_iff, decide_eq_true_iff]
  simp only [sqLt]
  by_cases h1 : a = a' <;> by_cases h2 : b = b' <;> simp [h1, h2] <;> omega
structure IsLay (F : List Sq) (l : Lay) : Prop extends Cov F l where
  up : l.Pairwise fun s t => sqLt s.1 t.1
theorem sqs_nd {l : Lay} (h : (sqsOf l).Nodup) : l.Pairwise fun s t => s.1 ≠ t.1 ∧ s.1 ≠ t.2 ∧ s.2 ≠ t.1 ∧ s.2 ≠ t.2 := by
  unfold sqsOf List.Nodup at h
  rw [List.pairwise_flatMap] at h
  refine h.2.imp fun {s t} h => ?_
  exact ⟨h _ (by simp) _ (by simp), h _ (by simp) _ (by simp), h _ (by simp) _ (by simp), h _ (by simp) _ (by simp)⟩
theorem Cov.perm {F : List Sq} {l m : Lay} (C : Cov F l) (h : m.Perm l) : Cov F m := ⟨fun s hs => C.st s (h.mem_iff.mp hs), (sqs_perm h).trans C.pm⟩
theorem Cov.lay {F : List Sq} {l : Lay} (C : Cov F l) (nd : F.Nodup) : IsLay F (TSt.sort l) := by
  have C' := C.perm (TSt.sort_perm l)
  refine ⟨C', ?_⟩
  have h1 := TSt.sort_sorted l
  have h2 := sqs_nd (C'.pm.nodup_iff.mpr nd)
  refine (h1.and h2).imp fun {s t} h => ?_
  obtain ⟨h1, h2, _⟩ := h
  unfold TyD.le at h1
  rw [show TSt.f = stone from rfl, lx_stone] at h1
  simp only [Bool.not_eq_true', decide_eq_false_iff_not, not_or, not_and] at h1
  rcases sqLt_tri s.1 t.1 with h | h | h
  · exact h
  · exact absurd h h2
  · exact absurd h h1.1
theorem IsLay.sorted {F : List Sq} {l : Lay} (I : IsLay F l) : l.Pairwise fun x y => TSt.le x y = true := I.up.imp fun {s t} h => by
  unfold TyD.le
  rw [show TSt.f = stone from rfl, lx_stone]
  simp only [Bool.not_eq_true', decide_eq_false_iff_not, not_or, not_and]
  refine ⟨fun h' => sqLt_irrefl _ (sqLt_trans h h'), fun e => ?_⟩
  rw [e] at h
  exact absurd h (sqLt_irrefl _)
theorem IsLay.uniq {F : List Sq} {l m : Lay} (I : IsLay F l) (J : IsLay F m) (h : l.Perm m) : l = m := TSt.uniq h I.sorted J.sorted
def allM (F : List Sq) : List Lay := TLay.sort ((everyM F).map TSt.sort)
theorem mem_all {F : List Sq} (up : F.Pairwise sqLt) {l : Lay} : l ∈ allM F ↔ IsLay F l := by
  unfold allM
  rw [(TLay.sort_perm _).mem_iff, List.mem_map]
  constructor
  · rintro ⟨r, hr, rfl⟩
    exact (every_cov _ (Nat.le_refl _) up r hr).lay (up_nd up)
  · intro I
    obtain ⟨r, hr, hp⟩ := every_all _ (Nat.le_refl _) up I.toCov
    exact ⟨r, hr, ((every_cov _ (Nat.le_refl _) up r hr).lay (up_nd up)).uniq I ((TSt.sort_perm r).trans hp)⟩
end TF
namespace TF
open PySem PySem.Spec L2
open PyProof.Rows hiding St RelV
def rowD (r : Lay) : Dat := .lst (r.map stone)
def rowsD (l : List Lay) : Dat := .lst (l.map rowD)
def ValidE (kvs : List (Dat × Dat)) : Prop := ∀ p ∈ kvs, ∃ F : List Sq, p.1 = fl F ∧ p.2 = rowsD (everyM F)
theorem key_fl (F : List Sq) : keyD 6 (fl F) = true := by
  simp only [keyD, fl]
  rw [List.all_eq_true]
  intro d hd
  obtain ⟨p, _, rfl⟩ := List.mem_map.mp hd
  rfl
theorem ValidE.look {kvs : List (Dat × Dat)} (h : ValidE kvs) {F : List Sq} {d : Dat} (e : lookD kvs (fl F) = some d) : d = rowsD (everyM F) := by
  unfold lookD at e
  obtain ⟨p, hp, rfl⟩ := Option.map_eq_some_iff.mp e
  have hm := List.mem_of_find?_eq_some hp
  have hk := List.find?_some hp
  have hk' : p.1 = fl F := of_decide_eq_true hk
  obtain ⟨F', h1, h2⟩ := h p hm
  rw [hk'] at h1
  rw [fl_inj h1]
  exact h2
theorem ValidE.put {kvs : List (Dat × Dat)} (h : ValidE kvs) (F : List Sq) : ValidE (putD kvs (fl F) (rowsD (everyM F))) := by
  unfold putD
  intro p hp
  split at hp
  · obtain ⟨x, hx, rfl⟩ := List.mem_map.mp hp
    by_cases e : x.1 = fl F
    · rw [if_pos e]; exact ⟨F, e, rfl⟩
    · rw [if_neg e]; exact h x hx
  · rcases List.mem_append.mp hp with hp | hp
    · exact h p hp
    · rw [List.mem_singleton.mp hp]; exact ⟨F, rfl, rfl⟩
theorem lookD_put' (kvs : List (Dat × Dat)) (k v : Dat) : lookD (putD kvs k v) k = some v := by
  by_cases h : (lookD kvs k).isSome = true
  · have : ∀ (kvs : List (Dat × Dat)), (lookD kvs k).isSome = true → lookD (kvs.map fun x => if x.1 = k then (x.1, v) else x) k = some v := by
      intro kvs
      induction kvs with
      | nil => intro h; simp [lookD] at h
      | cons p r ih =>
        intro h
        by_cases e : p.1 = k
        · simp [lookD, e]
        · have h' : (lookD r k).isSome = true := by simpa [lookD, e] using h
          have := ih h'
          simpa [lookD, e] using this
    unfold putD
    rw [if_pos h]
    exact this kvs h
  · unfold putD
    rw [if_neg h]
    have hn : kvs.find? (fun x => decide (x.1 = k)) = none := by
      cases q : kvs.find? (fun x => decide (x.1 = k)) with
      | none => rfl
      | some p => exact absurd (by simp [lookD, q]) h
    simp [lookD, List.find?_append, hn]
def spEvery (n : Nat) : SpD := fun ds G R => ∃ (F : List Sq) (kp : Addr) (kvs : List (Dat × Dat)), ds = [fl F, .fn kp] ∧ F.Pairwise sqLt ∧ F.length ≤ 2 * n ∧ n ≤ 12 ∧ G kp = some (.dct kvs) ∧ ValidE kvs ∧ kvs.length + 2 ^ n ≤ 2 ^ 12 + 1 ∧
  ∀ kvs', ValidE kvs' → kvs'.length + 1 ≤ kvs.length + 2 ^ n → R (rowsD (everyM F)) (put G kp (.dct kvs'))
def spAll : SpD := fun ds G R => ∃ F : List Sq, ds = [fl F] ∧ F ≠ [] ∧ F.Pairwise sqLt ∧ F.length ≤ 24 ∧ R (.lst ((allM F).map lay)) G
theorem last_at {F : List Sq} (h : F ≠ []) : atI (F.map sq) (-1) = some (sq (lastD F)) := by
  refine atI_map sq ?_
  unfold atI ixN
  have : 0 < F.length := List.length_pos_iff.mpr h
  rw [if_neg (by omega), if_pos (by omega)]
  show F[((F.length : Int) + -1).toNat]? = _
  unfold lastD
  rw [List.getLastD_eq_getLast?, List.getLast?_eq_getElem?]
  rw [show ((F.length : Int) + -1).toNat = F.length - 1 by omega, List.getElem?_eq_getElem (by omega)]
  rfl
theorem cov_len {F : List Sq} {l : Lay} (C : Cov F l) : 2 * l.length = F.length := by
  rw [← C.pm.length_eq]
  unfold sqsOf
  rw [List.length_flatMap]
  clear C
  induction l with
  | nil => rfl
  | cons a l ih => rw [List.map_cons, List.sum_cons, List.length_cons, ← ih]; simp; omega
noncomputable def via {α β : Type} [Inhabited β] (h : α → Dat) (g : α → β) (d : Dat) : β :=
  have := Classical.propDecidable (∃ x, h x = d)
  if e : ∃ x, h x = d then g e.choose else default
instance : Inhabited Dat := ⟨.non⟩
theorem via_eq {α β : Type} [Inhabited β] {h : α → Dat} (inj : ∀ {x y}, h x = h y → x = y) (g : α → β) (x : α) : via h g (h x) = g x := by
  unfold via
  have e : ∃ y, h y = h x := ⟨x, rfl⟩
  simp only [e, dif_pos]
  rw [inj e.choose_spec]
theorem map_via {α : Type} {h : α → Dat} (inj : ∀ {x y}, h x = h y → x = y) (g : α → Dat) (l : List α) : (l.map h).map (via h g) = l.map g := by
  rw [List.map_map]
  exact List.map_congr_left fun x _ => via_eq inj g x
theorem fil_via' {α : Type} {h : α → Dat} (inj : ∀ {x y}, h x = h y → x = y) (p : α → Bool) (l : List α) : ((l.map h).filter (via h p)).map id = (l.filter p).map h := by
  rw [List.filter_map, List.map_id]
  have : via h p ∘ h = p := funext fun x => via_eq inj p x
  rw [this]
theorem map_inj' {α : Type} {h : α → Dat} (inj : ∀ {x y}, h x = h y → x = y) : ∀ {l m : List α}, l.map h = m.map h → l = m
  | [], [], _ => rfl
  | [], _ :: _, h => by simp at h
  | _ :: _, [], h => by simp at h
  | p :: l, q :: m, h => by
    simp only [List.map_cons, List.cons.injEq] at h
    rw [inj h.1, map_inj' inj h.2]
theorem rowD_inj {r r' : Lay} (h : rowD r = rowD r') : r = r' := by
  simp only [rowD, Dat.lst.injEq] at h
  exact map_inj' stone_inj h
end TF
namespace TF
open PySem PySem.Spec L2
open PyProof.Rows hiding St RelV
section
variable {X : Cx} {ρ : Rho} {G : Gs} {e a b c : Expr} {es : List Expr} {d d' d1 d2 d3 k : Dat} {ds l m : List Dat} {pos : Pos} {i j z : Int} {p : Addr} {D : DE} {rest body : List Stmt} {kvs : List (Dat × Dat)}
end
end TF
namespace TF
open PySem PySem.Spec L2
open PyProof.Rows hiding St RelV
abbrev PM := List (Sq × Sq)
def lk (pm : PM) (x : Sq) : Option Sq := (pm.find? fun p => decide (p.1 = x)).map (·.2)
def pt (pm : PM) (x y : Sq) : PM := if (lk pm x).isSome then pm.map (fun p => if p.1 = x then (p.1, y) else p) else pm ++ [(x, y)]
structure KeysIn (F : List Sq) (pm : PM) : Prop where
  nd : (pm.map (·.1)).Nodup
  inn : ∀ p ∈ pm, p.1 ∈ F
theorem lk_mem {pm : PM} {x : Sq} : (lk pm x).isSome = true ↔ x ∈ pm.map (·.1) := by
  unfold lk
  rw [Option.isSome_map, List.find?_isSome]
  simp only [List.mem_map, decide_eq_true_eq]
theorem KeysIn.pt {F : List Sq} {pm : PM} (h : KeysIn F pm) {x : Sq} (hx : x ∈ F) (y : Sq) : KeysIn F (pt pm x y) := by
  unfold TF.pt
  split
  · have e : (pm.map fun p => if p.1 = x then (p.1, y) else p).map (·.1) = pm.map (·.1) := by
      rw [List.map_map]
      refine List.map_congr_left fun p _ => ?_
      simp only [Function.comp]
      split <;> rfl
    refine ⟨by rw [e]; exact h.nd, fun p hp => ?_⟩
    have : p.1 ∈ pm.map (·.1) := by rw [← e]; exact List.mem_map.mpr ⟨p, hp, rfl⟩
    obtain ⟨q, hq, e2⟩ := List.mem_map.mp this
    rw [← e2]; exact h.inn q hq
  · rename_i hn
    refine ⟨?_, fun p hp => ?_⟩
    · rw [List.map_append, List.nodup_append]
      refine ⟨h.nd, by simp, fun a ha b hb e => hn ?_⟩
      simp at hb
      subst hb; subst e
      exact lk_mem.mpr ha
    · rcases List.mem_append.mp hp with hp | hp
      · exact h.inn p hp
      · rw [List.mem_singleton.mp hp]; exact hx
theorem KeysIn.len {F : List Sq} {pm : PM} (h : KeysIn F pm) : pm.length ≤ F.length := by
  have := nodup_le h.nd (m := F) fun x hx => by obtain ⟨p, hp, rfl⟩ := List.mem_map.mp hx; exact h.inn p hp
  simpa using this
theorem KeysIn.nil (F : List Sq) : KeysIn F [] := ⟨by simp, fun p h => nomatch h⟩
structure MOk (F : List Sq) (m : Sq → Option Sq) : Prop where
  ok : ∀ x y, m x = some y → m y = some x ∧ y ∈ nbM x ∧ x ∈ F ∧ y ∈ F
def Stale (F : List Sq) (m : Sq → Option Sq) (o : Sq) : Prop := ∀ x y, x ≠ o → m x = some y → y ≠ o ∧ m y = some x ∧ y ∈ nbM x ∧ x ∈ F ∧ y ∈ F
def two (m : Sq → Option Sq) (s o : Sq) : Sq → Option Sq := fun z => if z = o then some s else if z = s then some o else m z
def col (x : Sq) : Int := (x.1 + x.2) % 2
structure Tr (F : List Sq) (m : Sq → Option Sq) (st : Sq) (L : List Sq) (t : PM) : Prop where
  nd : (t.map (·.1)).Nodup
  len : L.length = t.length + 1
  hd : L[0]? = some st
  at_ : ∀ k p, t[k]? = some p → m p.1 = L[k + 1]? ∧ (∃ j, j ≤ k ∧ L[j]? = some p.2) ∧ p.2 ∈ nbM p.1 ∧ p.1 ∈ F
  co : ∀ x ∈ L, col x = col st
  inn : ∀ x ∈ L, x ∈ F
  nL : L.Nodup
structure Back (F : List Sq) (m : Sq → Option Sq) (L : List Sq) (t : PM) (e : Sq) (j : Nat) (o : Sq) (m' : Sq → Option Sq) : Prop where
  stale : Stale F m' o
  oin : o ∈ F
  par : ∃ s, L[j]? = some s ∧ lk t o = some s ∧ s ∈ nbM o
  same : ∀ i x, i ≤ j → L[i]? = some x → m' x = m x
  dom : ∀ x, ((m' x).isSome = true ∨ x = o) ↔ ((m x).isSome = true ∨ x = e)
end TF
namespace TF
open PySem PySem.Spec L2
open PyProof.Rows hiding St RelV
structure CrowdP (F C : List Sq) : Prop where
  ne : C ≠ []
  up : C.Pairwise sqLt
  inn : ∀ x ∈ C, x ∈ F
  co : ∀ x ∈ C, ∀ y ∈ C, col x = col y
  few : ∃ ks : List Sq, ks.length < C.length ∧ ∀ x ∈ C, ∀ y ∈ nbM x, y ∈ F → y ∈ ks
theorem sort_up {L : List Sq} (nd : L.Nodup) : (TSq.sort L).Pairwise sqLt := by
  have h1 := TSq.sort_sorted L
  have h2 : (TSq.sort L).Nodup := (TSq.sort_perm L).nodup_iff.mpr nd
  refine (h1.and h2).imp fun {s t} h => ?_
  obtain ⟨h1, h2⟩ := h
  unfold TyD.le at h1
  rw [show TSq.f = sq from rfl, lx_sq] at h1
  simp only [Bool.not_eq_true', decide_eq_false_iff_not] at h1
  rcases sqLt_tri s t with h | h | h
  · exact h
  · exact absurd h h2
  · exact absurd h h1
theorem Tr.crowd {F : List Sq} {m : Sq → Option Sq} {st : Sq} {L : List Sq} {t : PM} (T : Tr F m st L t) (cl : ∀ x ∈ L, ∀ y ∈ nbM x, y ∈ F → y ∈ t.map (·.1)) : CrowdP F (TSq.sort L) := by
  have hm : ∀ x, x ∈ TSq.sort L ↔ x ∈ L := fun x => (TSq.sort_perm L).mem_iff
  have hl : (TSq.sort L).length = t.length + 1 := by rw [(TSq.sort_perm L).length_eq, T.len]
  refine ⟨?_, sort_up T.nL, fun x hx => T.inn x ((hm x).mp hx), fun x hx y hy => ?_, t.map (·.1), ?_, fun x hx => cl x ((hm x).mp hx)⟩
  · intro e; rw [e] at hl; simp at hl
  · rw [T.co x ((hm x).mp hx), T.co y ((hm y).mp hy)]
  · rw [List.length_map, hl]; omega
theorem cmp_sq (x y : Sq) : cmpD true (sq x) (sq y) = decide (sqLt x y) := by
  have := TSq.lt x y
  rw [show TSq.f = sq from rfl, lx_sq] at this
  exact this
def ptn (l : Lay) (x : Sq) : Option Sq := l.findSome? fun s => if s.1 = x then some s.2 else if s.2 = x then some s.1 else none
theorem ptn_of {l : Lay} (nd : (sqsOf l).Nodup) {s : Stone} (hs : s ∈ l) : ptn l s.1 = some s.2 ∧ ptn l s.2 = some s.1 := by
  induction l with
  | nil => cases hs
  | cons a l ih =>
    have nd' : ([a.1, a.2] ++ sqsOf l).Nodup := nd
    rw [List.nodup_append] at nd'
    obtain ⟨n1, n2, n3⟩ := nd'
    have hne : a.1 ≠ a.2 := by simpa using n1
    unfold ptn
    rw [List.findSome?_cons, List.findSome?_cons]
    rcases List.mem_cons.mp hs with rfl | hs
    · rw [if_pos rfl, if_neg hne, if_pos rfl]
      exact ⟨rfl, rfl⟩
    · have m1 : s.1 ∈ sqsOf l := mem_sqs.mpr ⟨s, hs, .inl rfl⟩
      have m2 : s.2 ∈ sqsOf l := mem_sqs.mpr ⟨s, hs, .inr rfl⟩
      have k1 : a.1 ≠ s.1 := n3 _ (by simp) _ m1
      have k2 : a.1 ≠ s.2 := n3 _ (by simp) _ m2
      have k3 : a.2 ≠ s.1 := n3 _ (by simp) _ m1
      have k4 : a.2 ≠ s.2 := n3 _ (by simp) _ m2
      rw [if_neg k1, if_neg k3, if_neg k2, if_neg k4]
      exact ih n2 hs
theorem ptn_some {l : Lay} {x y : Sq} (h : ptn l x = some y) : (x, y) ∈ l ∨ (y, x) ∈ l := by
  obtain ⟨s, hs, e⟩ := List.exists_of_findSome?_eq_some h
  by_cases h1 : s.1 = x
  · rw [if_pos h1] at e
    cases e
    exact .inl (h1 ▸ hs)
  · rw [if_neg h1] at e
    by_cases h2 : s.2 = x
    · rw [if_pos h2] at e
      cases e
      exact .inr (h2 ▸ hs)
    · rw [if_neg h2] at e; cases e
theorem Cov.mok {F : List Sq} {l : Lay} (C : Cov F l) (nd : F.Nodup) : MOk F (ptn l) ∧ ∀ x ∈ F, (ptn l x).isSome = true := by
  have nd' := C.pm.nodup_iff.mpr nd
  refine ⟨⟨fun x y h => ?_⟩, fun x hx => ?_⟩
  · rcases ptn_some h with h | h
    · exact ⟨(ptn_of nd' h).2, (C.st _ h).2, C.pm.mem_iff.mp (mem_sqs.mpr ⟨_, h, .inl rfl⟩), C.pm.mem_iff.mp (mem_sqs.mpr ⟨_, h, .inr rfl⟩)⟩
    · exact ⟨(ptn_of nd' h).1, nb_symm (C.st _ h).2, C.pm.mem_iff.mp (mem_sqs.mpr ⟨_, h, .inr rfl⟩), C.pm.mem_iff.mp (mem_sqs.mpr ⟨_, h, .inl rfl⟩)⟩
  · obtain ⟨s, hs, e⟩ := mem_sqs.mp (C.pm.mem_iff.mpr hx)
    rcases e with rfl | rfl
    · rw [(ptn_of nd' hs).1]; rfl
    · rw [(ptn_of nd' hs).2]; rfl
theorem CrowdP.none {F C : List Sq} (K : CrowdP F C) (nd : F.Nodup) {l : Lay} (I : Cov F l) : False := by
  obtain ⟨M, tot⟩ := I.mok nd
  obtain ⟨ks, hl, hk⟩ := K.few
  have get : ∀ x ∈ C, ptn l x = some ((ptn l x).getD x) := fun x hx => by
    obtain ⟨y, hy⟩ := Option.isSome_iff_exists.mp (tot x (K.inn x hx))
    rw [hy]; rfl
  have nC : (C.map fun x => (ptn l x).getD x).Nodup := by
    unfold List.Nodup
    rw [List.pairwise_map]
    refine (up_nd K.up).imp_of_mem fun {a b} ha hb hne e => hne ?_
    have q1 := (M.ok _ _ (get a ha)).1
    have q2 := (M.ok _ _ (get b hb)).1
    rw [e, q2] at q1
    cases q1
    rfl
  have := nodup_le nC (m := ks) fun y hy => by
    obtain ⟨x, hx, rfl⟩ := List.mem_map.mp hy
    have g := M.ok _ _ (get x hx)
    exact hk x hx _ g.2.1 g.2.2.2
  rw [List.length_map] at this
  omega
end TF
namespace TF
open PySem PySem.Spec L2
open PyProof.Rows hiding St RelV
def stepsM (floor : List Sq) (q : Sq) (taken : List Sq) : List (List (Sq × Sq) × List Sq) :=
  if taken.contains q = true then [([], taken.drop 1)] else
    (if (floor.contains (q.1, q.2 + 1) && !taken.contains (q.1, q.2 + 1)) = true then [([(q, (q.1, q.2 + 1))], (q.1, q.2 + 1) :: taken)] else []) ++
    (if floor.contains (q.1 + 1, q.2) = true then [([(q, (q.1 + 1, q.2))], taken ++ [(q.1 + 1, q.2)])] else [])
def keyOf (k : Nat) (taken : List Sq) : Dat := .tup [.int k, fl taken]
end TF
namespace TF
open PySem PySem.Spec L2
open PyProof.Rows hiding St RelV
def waysL (floor : List Sq) : List Sq → List Sq → List Lay
  | [], _ => [[]]
  | q :: r, taken => (stepsM floor q taken).flatMap fun t => (waysL floor r t.2).map (t.1 ++ ·)
structure WInv (floor rest taken : List Sq) : Prop where
  up : floor.Pairwise sqLt
  pre : ∃ pre, floor = pre ++ rest
  tup : taken.Pairwise sqLt
  tin : ∀ t ∈ taken, t ∈ rest
  bd : ∀ q r, rest = q :: r → ∀ t ∈ taken, sqLt t (q.1 + 1, q.2)
end TF
namespace TF
open PySem PySem.Spec L2
open PyProof.Rows hiding St RelV
theorem eqD_stone (s t : Stone) : eqD (stone s) (stone t) = decide (s = t) := by
  obtain ⟨a, b⟩ := s
  obtain ⟨c, d⟩ := t
  show (eqD (sq a) (sq c) && (eqD (sq b) (sq d) && true)) = _
  rw [eqD_sq, eqD_sq, Bool.and_true, Bool.eq_iff_iff]
  simp
theorem any_stone (l : List Stone) (s : Stone) : ((l.map stone).any fun e => eqD e (stone s)) = l.contains s := by
  rw [Bool.eq_iff_iff, List.any_map, List.any_eq_true, List.contains_iff_mem]
  constructor
  · rintro ⟨x, hx, e⟩
    have e' : eqD (stone x) (stone s) = true := e
    rw [eqD_stone, decide_eq_true_eq] at e'
    exact e' ▸ hx
  · intro h
    exact ⟨s, h, by show eqD (stone s) (stone s) = true; rw [eqD_stone]; simp⟩
theorem plain_stones (l : List Stone) : (l.map stone).all (plainD 8) = true := by
  rw [List.all_eq_true]
  intro d hd
  obtain ⟨s, _, rfl⟩ := List.mem_map.mp hd
  exact plain_stone s
theorem lay_nd {F : List Sq} {l : Lay} (I : IsLay F l) : l.Nodup := I.up.imp fun {s t} h e => by subst e; exact sqLt_irrefl _ h
theorem lay_in {F : List Sq} {l : Lay} (C : Cov F l) {s : Stone} (hs : s ∈ l) : s.1 ∈ F ∧ s.2 ∈ F := ⟨C.pm.mem_iff.mp (mem_sqs.mpr ⟨s, hs, .inl rfl⟩), C.pm.mem_iff.mp (mem_sqs.mpr ⟨s, hs, .inr rfl⟩)⟩
end TF
namespace TF
open PySem PySem.Spec L2
open PyProof.Rows hiding St RelV
structure CompScK (X : Cx) (scope : Scope) (Nc : List Str) (caps : List (Option Nat)) : Prop where
  kind : scope.kind = .function
  scell : ∀ x ∈ scope.names, x.2 = .cell → scope.names.lookup x.1 = some .cell
  names : ∀ x ∈ scope.names, x.2 = .local → scope.names.lookup x.1 = some .local
  free : ∀ x ∈ scope.names, x.2 = .free → X.env.kindOf x.1 = some .cell ∨ X.env.kindOf x.1 = some .free
  sole : ∀ x ∈ scope.names, x.2 = .free → scope.names.lookup x.1 = some .free
  nd : Nc.Nodup
  len : caps.length = Nc.length
  caps : ∀ (i j : Nat) (x : Str), caps[i]? = some (some j) → Nc[i]? = some x → X.N[j]? = some x ∧ (x, NameKind.free) ∈ scope.names
section
variable {X : Cx} {pins : List (Addr × Obj)} {σ : St} {H : Hp} {s : Shared} {scope : Scope} {Nc : List Str} {caps : List (Option Nat)} {fp : List Addr} {ρ : Rho} {G : Gs}
theorem CompScK.only (Sc : CompScK X scope Nc caps) {x : Str} (h : (x, NameKind.free) ∈ scope.names) : (x, NameKind.cell) ∉ scope.names := fun h' => by
  have h1 := Sc.sole _ h rfl
  have h2 := Sc.scell _ h' rfl
  rw [h1] at h2
  cases h2
end
section
variable {X : Cx} {pins : List (Addr × Obj)} {σ : St} {H : Hp} {s : Shared} {scope : Scope} {Nc : List Str} {caps : List (Option Nat)} {ρ : Rho} {G : Gs} {elt target iter c : Expr} {ifs : List Expr} {cpos pos pos' : Pos} {l : List Dat} {f : Dat → Rho → Option Rho} {tail : Env → Value → Sem Unit} {D : DE} {rest : List Stmt}
end
end TF
namespace TF
open PySem
def advM (mask : Nat) (p : SetTable.Probe) : SetTable.Probe :=
  if p.more > 0 then { p with j := p.j + 1, more := p.more - 1 } else
    { p with j := (SetTable.leap mask p.i p.perturb).1, more := SetTable.runEnd mask (SetTable.leap mask p.i p.perturb).1 - (SetTable.leap mask p.i p.perturb).1, i := (SetTable.leap mask p.i p.perturb).1, perturb := (SetTable.leap mask p.i p.perturb).2 }
def runM (mask i perturb : Nat) : SetTable.Probe := { j := i, more := SetTable.runEnd mask i - i, i, perturb, dummy := none }
def itr (mask : Nat) : Nat → SetTable.Probe → SetTable.Probe
  | 0, p => p
  | m + 1, p => itr mask m (advM mask p)
theorem itr_add (mask : Nat) : ∀ (a b : Nat) (p : SetTable.Probe), itr mask (a + b) p = itr mask b (itr mask a p)
  | 0, b, p => by rw [Nat.zero_add]; rfl
  | a + 1, b, p => by rw [Nat.succ_add]; exact itr_add mask a b (advM mask p)
theorem itr_succ (mask m : Nat) (p : SetTable.Probe) : itr mask (m + 1) p = advM mask (itr mask m p) := by rw [itr_add mask m 1 p]; rfl
theorem adv_dummy (mask : Nat) (p : SetTable.Probe) : (advM mask p).dummy = p.dummy := by unfold advM; split <;> rfl
theorem run_in (mask i perturb : Nat) : ∀ r, r ≤ SetTable.runEnd mask i - i → itr mask r (runM mask i perturb) = { j := i + r, more := SetTable.runEnd mask i - i - r, i, perturb, dummy := none }
  | 0, _ => rfl
  | r + 1, h => by
    rw [itr_succ, run_in mask i perturb r (by omega)]
    unfold advM
    rw [if_pos (by show SetTable.runEnd mask i - i - r > 0; omega)]
    simp only [SetTable.Probe.mk.injEq, and_true]
    constructor <;> omega
theorem run_len (mask i : Nat) : SetTable.runEnd mask i - i ≤ 9 := by unfold SetTable.runEnd; split <;> omega
theorem run_leap (mask i perturb : Nat) : itr mask (SetTable.runEnd mask i - i + 1) (runM mask i perturb) = runM mask (SetTable.leap mask i perturb).1 (SetTable.leap mask i perturb).2 := by
  rw [itr_succ, run_in mask i perturb _ (Nat.le_refl _)]
  unfold advM
  rw [if_neg (by show ¬ SetTable.runEnd mask i - i - (SetTable.runEnd mask i - i) > 0; omega)]
  rfl
def leaps (mask : Nat) : Nat → Nat × Nat → Nat × Nat
  | 0, p => p
  | k + 1, p => SetTable.leap mask (leaps mask k p).1 (leaps mask k p).2
theorem leaps_path (mask i perturb : Nat) : ∀ k, ∃ m ≤ 10 * k, itr mask m (runM mask i perturb) = runM mask (leaps mask k (i, perturb)).1 (leaps mask k (i, perturb)).2
  | 0 => ⟨0, Nat.le_refl _, rfl⟩
  | k + 1 => by
    obtain ⟨m, hm, e⟩ := leaps_path mask i perturb k
    have hl := run_len mask (leaps mask k (i, perturb)).1
    refine ⟨m + (SetTable.runEnd mask (leaps mask k (i, perturb)).1 - (leaps mask k (i, perturb)).1 + 1), by omega, ?_⟩
    rw [itr_add, e, run_leap]
    rfl
theorem leaps_perturb (mask i perturb : Nat) : ∀ k, (leaps mask k (i, perturb)).2 = perturb / 32 ^ k
  | 0 => by simp [leaps]
  | k + 1 => by
    show (leaps mask k (i, perturb)).2 / 32 = _
    rw [leaps_perturb mask i perturb k, Nat.div_div_eq_div_mul, Nat.pow_succ]
def turnF (n i : Nat) : Nat := (i * 5 + 1) % n
def turnI (n : Nat) : Nat → Nat → Nat
  | 0, i => i
  | m + 1, i => turnF n (turnI n m i)
theorem leaps_late (mask i perturb : Nat) (hp : perturb < 2 ^ 64) : ∀ m, (leaps mask (13 + m) (i, perturb)).1 = turnI (mask + 1) m (leaps mask 13 (i, perturb)).1
  | 0 => rfl
  | m + 1 => by
    have h0 : (leaps mask (13 + m) (i, perturb)).2 = 0 := by
      rw [leaps_perturb, Nat.div_eq_of_lt]
      refine Nat.lt_of_lt_of_le hp ?_
      rw [Nat.pow_add]
      have : 0 < 32 ^ m := Nat.pow_pos (by decide)
      exact Nat.le_trans (by decide : 2 ^ 64 ≤ 32 ^ 13) (Nat.le_mul_of_pos_right _ this)
    show (SetTable.leap mask (leaps mask (13 + m) (i, perturb)).1 (leaps mask (13 + m) (i, perturb)).2).1 = _
    rw [h0, leaps_late mask i perturb hp m]
    rfl
def Cyc (n : Nat) : Prop := ∀ i < n, ∀ j < n, ∃ m < n, turnI n m i = j
theorem turnI_add (n : Nat) : ∀ (a b i : Nat), turnI n (a + b) i = turnI n a (turnI n b i)
  | 0, b, i => by rw [Nat.zero_add]; rfl
  | a + 1, b, i => by
    rw [Nat.succ_add]
    show turnF n (turnI n (a + b) i) = turnF n (turnI n a (turnI n b i))
    rw [turnI_add n a b i]
theorem cyc_of {n : Nat} (h0 : ∀ j < n, ∃ m < n, turnI n m 0 = j) (hn : turnI n n 0 = 0) : Cyc n := fun i hi j hj => by
  obtain ⟨a, ha, ea⟩ := h0 i hi
  obtain ⟨b, hb, eb⟩ := h0 j hj
  by_cases h : a ≤ b
  · refine ⟨b - a, by omega, ?_⟩
    rw [← ea, ← turnI_add, Nat.sub_add_cancel h]
    exact eb
  · refine ⟨b + n - a, by omega, ?_⟩
    rw [← ea, ← turnI_add, show b + n - a + a = b + n by omega, turnI_add, hn]
    exact eb
theorem cyc8 : Cyc 8 := cyc_of (by decide +kernel) (by decide +kernel)
def orbit (n : Nat) : Nat → Nat → List Nat
  | 0, _ => []
  | k + 1, i => i :: orbit n k (turnF n i)
theorem turnI_front (n : Nat) : ∀ (m i : Nat), turnI n (m + 1) i = turnI n m (turnF n i)
  | 0, _ => rfl
  | m + 1, i => by
    show turnF n (turnI n (m + 1) i) = turnF n (turnI n m (turnF n i))
    rw [turnI_front n m i]
theorem orbit_at (n : Nat) : ∀ (k i j : Nat), j ∈ orbit n k i → ∃ m < k, turnI n m i = j
  | 0, _, _, h => by cases h
  | k + 1, i, j, h => by
    rcases List.mem_cons.mp h with e | h
    · exact ⟨0, by omega, e.symm⟩
    · obtain ⟨m, hm, e⟩ := orbit_at n k (turnF n i) j h
      exact ⟨m + 1, by omega, by rw [turnI_front]; exact e⟩
theorem cyc_orbit {n : Nat} (h : (List.range n).all (fun j => (orbit n n 0).contains j) = true) (hn : turnI n n 0 = 0) : Cyc n := by
  refine cyc_of (fun j hj => ?_) hn
  rw [List.all_eq_true] at h
  have := h j (List.mem_range.mpr hj)
  exact orbit_at n n 0 j (by simpa using this)
theorem cyc32 : Cyc 32 := cyc_orbit (by decide +kernel) (by decide +kernel)
theorem cyc128 : Cyc 128 := cyc_orbit (by decide +kernel) (by decide +kernel)
theorem bits_lt (h : Int) : SetTable.bits h < 2 ^ 64 := by
  unfold SetTable.bits
  have h1 := Int.emod_nonneg h (show (2 ^ 64 : Int) ≠ 0 by decide)
  have h2 := Int.emod_lt_of_pos h (show (0 : Int) < 2 ^ 64 by decide)
  omega
def pathM (mask : Nat) (h : Int) (m : Nat) : SetTable.Probe := itr mask m (runM mask (SetTable.bits h % (mask + 1)) (SetTable.bits h))
theorem leaps_lt (mask i perturb : Nat) (hi : i < mask + 1) : ∀ k, (leaps mask k (i, perturb)).1 < mask + 1
  | 0 => hi
  | k + 1 => Nat.mod_lt _ (Nat.succ_pos _)
theorem path_all {mask : Nat} (hc : Cyc (mask + 1)) (h : Int) {j : Nat} (hj : j < mask + 1) : ∃ m < 10 * SetTable.turns mask, (pathM mask h m).j = j := by
  have hi : SetTable.bits h % (mask + 1) < mask + 1 := Nat.mod_lt _ (Nat.succ_pos _)
  obtain ⟨a, ha, ea⟩ := hc _ (leaps_lt mask _ (SetTable.bits h) hi 13) j hj
  obtain ⟨m, hm, e⟩ := leaps_path mask (SetTable.bits h % (mask + 1)) (SetTable.bits h) (13 + a)
  refine ⟨m, by unfold SetTable.turns; omega, ?_⟩
  unfold pathM
  rw [e]
  show (leaps mask (13 + a) _).1 = j
  rw [leaps_late mask _ _ (bits_lt h)]
  exact ea
theorem path_lt {mask : Nat} (h : Int) (m : Nat) : (pathM mask h m).j ≤ mask := by
  have key : ∀ m, ∃ r, r + (itr mask m (runM mask (SetTable.bits h % (mask + 1)) (SetTable.bits h))).j = (itr mask m (runM mask (SetTable.bits h % (mask + 1)) (SetTable.bits h))).j + r ∧ (itr mask m (runM mask (SetTable.bits h % (mask + 1)) (SetTable.bits h))).j + (itr mask m (runM mask (SetTable.bits h % (mask + 1)) (SetTable.bits h))).more ≤ mask := by
    intro m
    refine ⟨0, by omega, ?_⟩
    have run : ∀ i, i < mask + 1 → i + (SetTable.runEnd mask i - i) ≤ mask := fun i hi => by unfold SetTable.runEnd; split <;> omega
    induction m with
    | zero => exact run _ (Nat.mod_lt _ (Nat.succ_pos _))
    | succ m ih =>
      rw [itr_succ]
      generalize itr mask m (runM mask (SetTable.bits h % (mask + 1)) (SetTable.bits h)) = p at ih
      unfold advM
      split
      · simp only; omega
      · exact run _ (Nat.mod_lt _ (Nat.succ_pos _))
  obtain ⟨_, _, e⟩ := key m
  unfold pathM
  omega
end TF
namespace TF
open PySem
theorem least {P : Nat → Prop} (h : ∃ m, P m) : ∃ m, P m ∧ ∀ m' < m, ¬ P m' := by
  obtain ⟨m, hm⟩ := h
  induction m using Nat.strongRecOn with
  | ind m ih =>
    by_cases c : ∃ m' < m, P m'
    · obtain ⟨m', h1, h2⟩ := c
      exact ih m' h1 h2
    · exact ⟨m, hm, fun m' h1 h2 => c ⟨m', h1, h2⟩⟩
theorem below_go (xs : Array Nat) (j : Nat) (up : xs.toList.Pairwise (· < ·)) : ∀ (fuel lo hi : Nat), lo ≤ hi → hi ≤ xs.size → hi - lo ≤ fuel → (∀ i < lo, ∀ x, xs[i]? = some x → x < j) → (∀ i, hi ≤ i → ∀ x, xs[i]? = some x → j ≤ x) →
    SetTable.below.go xs j fuel lo hi ≤ xs.size ∧ (∀ i < SetTable.below.go xs j fuel lo hi, ∀ x, xs[i]? = some x → x < j) ∧ (∀ i, SetTable.below.go xs j fuel lo hi ≤ i → ∀ x, xs[i]? = some x → j ≤ x)
  | 0, lo, hi, h1, h2, h3, h4, h5 => by
    have e : lo = hi := by omega
    subst e
    exact ⟨h2, h4, h5⟩
  | fuel + 1, lo, hi, h1, h2, h3, h4, h5 => by
    have mono : ∀ a b x y, a < b → xs[a]? = some x → xs[b]? = some y → x < y := fun a b x y hab ha hb => by
      obtain ⟨ha1, ha2⟩ := Array.getElem?_eq_some_iff.mp ha
      obtain ⟨hb1, hb2⟩ := Array.getElem?_eq_some_iff.mp hb
      have := List.pairwise_iff_getElem.mp up a b (by simpa using ha1) (by simpa using hb1) hab
      simp only [Array.getElem_toList] at this
      rw [← ha2, ← hb2]; exact this
    unfold SetTable.below.go
    by_cases c : lo < hi
    · rw [if_pos c]
      have hm : (lo + hi) / 2 < xs.size := by omega
      have hg : xs[(lo + hi) / 2]? = some xs[(lo + hi) / 2] := Array.getElem?_eq_getElem hm
      have hd : xs.getD ((lo + hi) / 2) j = xs[(lo + hi) / 2] := by rw [Array.getD_eq_getD_getElem?, hg]; rfl
      simp only [hd]
      by_cases c2 : xs[(lo + hi) / 2] < j
      · rw [if_pos c2]
        refine below_go xs j up fuel _ _ (by omega) h2 (by omega) (fun i hi' x hx => ?_) h5
        rcases Nat.lt_or_eq_of_le (Nat.lt_succ_iff.mp hi') with h | h
        · exact Nat.lt_trans (mono _ _ _ _ h hx hg) c2
        · subst h; rw [hg] at hx; cases hx; exact c2
      · rw [if_neg c2]
        refine below_go xs j up fuel _ _ (by omega) (by omega) (by omega) h4 (fun i hi' x hx => ?_)
        rcases Nat.lt_or_eq_of_le hi' with h | h
        · have := mono _ _ _ _ h hg hx; omega
        · subst h; rw [hg] at hx; cases hx; omega
    · rw [if_neg c]
      have e : lo = hi := by omega
      subst e
      exact ⟨h2, h4, h5⟩
theorem below_ok (xs : Array Nat) (j : Nat) (up : xs.toList.Pairwise (· < ·)) : SetTable.below xs j ≤ xs.size ∧ (∀ i < SetTable.below xs j, ∀ x, xs[i]? = some x → x < j) ∧ (∀ i, SetTable.below xs j ≤ i → ∀ x, xs[i]? = some x → j ≤ x) :=
  below_go xs j up xs.size 0 xs.size (Nat.zero_le _) (Nat.le_refl _) (by omega) (fun i h => by omega) (fun i h x hx => by
    have := (Array.getElem?_eq_some_iff.mp hx).1; omega)
theorem slot_live {t : SetTable} (up : t.place.toList.Pairwise (· < ·)) {j : Nat} (h : j ∈ t.place.toList) : ∃ i, t.slot j = .live i ∧ t.place[i]? = some j := by
  obtain ⟨h1, h2, h3⟩ := below_ok t.place j up
  obtain ⟨k, hk, e⟩ := List.getElem_of_mem h
  have hk' : k < t.place.size := by simpa using hk
  have eg : t.place[k]? = some j := by rw [Array.getElem?_eq_getElem hk']; simpa using e
  have hb : SetTable.below t.place j ≤ k := by
    by_cases c : k < SetTable.below t.place j
    · have := h2 k c j eg; omega
    · omega
  have hs : SetTable.below t.place j < t.place.size := by omega
  have eb : t.place[SetTable.below t.place j]? = some t.place[SetTable.below t.place j] := Array.getElem?_eq_getElem hs
  have : t.place[SetTable.below t.place j] = j := by
    have l1 := h3 _ (Nat.le_refl _) _ eb
    rcases Nat.lt_or_eq_of_le hb with c | c
    · have := List.pairwise_iff_getElem.mp up _ k (by simpa using hs) hk c
      simp only [Array.getElem_toList] at this
      have e' : t.place[k] = j := by simpa using e
      omega
    · simp only [c]; simpa using e
  rw [this] at eb
  refine ⟨_, ?_, eb⟩
  unfold SetTable.slot
  simp only [eb, beq_self_eq_true, if_true]
theorem slot_empty {t : SetTable} (hd : t.dummies = #[]) {j : Nat} (h : j ∉ t.place.toList) : t.slot j = .empty := by
  unfold SetTable.slot
  have e : (t.place[SetTable.below t.place j]? == some j) = false := by
    cases c : t.place[SetTable.below t.place j]? with
    | none => rfl
    | some x =>
      obtain ⟨h1, h2⟩ := Array.getElem?_eq_some_iff.mp c
      have : x ∈ t.place.toList := by rw [← h2]; simp
      simp only [beq_eq_false_iff_ne, ne_eq, Option.some.injEq]
      rintro rfl
      exact h this
  have e2 : SetTable.has t.dummies j = false := by rw [hd]; rfl
  simp only [e, e2, Bool.false_eq_true, if_false]
theorem slot_nodummy {t : SetTable} (up : t.place.toList.Pairwise (· < ·)) (hd : t.dummies = #[]) (j : Nat) : t.slot j = .empty ∧ j ∉ t.place.toList ∨ ∃ i, t.slot j = .live i ∧ t.place[i]? = some j := by
  by_cases h : j ∈ t.place.toList
  · exact .inr (slot_live up h)
  · exact .inl ⟨slot_empty hd h, h⟩
theorem go_first {t : SetTable} {hashAt : Nat → Int} {h : Int} : ∀ (m fuel : Nat) (p : SetTable.Probe), m < fuel → (∀ m' < m, ∃ i, t.slot (itr t.mask m' p).j = .live i ∧ (hashAt i == h) = false) →
    (t.slot (itr t.mask m p).j = .empty → SetTable.probe.go t hashAt h fuel p = some (.empty (itr t.mask m p).j p.dummy)) ∧
    ∀ i, t.slot (itr t.mask m p).j = .live i → (hashAt i == h) = true → SetTable.probe.go t hashAt h fuel p = some (.candidate (itr t.mask m p).j i (t.advance (itr t.mask m p)))
  | 0, fuel + 1, p, _, _ => by
    refine ⟨fun e => ?_, fun i e e' => ?_⟩
    · show SetTable.probe.go t hashAt h (fuel + 1) p = _
      unfold SetTable.probe.go
      rw [show t.slot p.j = .empty from e]
      rfl
    · show SetTable.probe.go t hashAt h (fuel + 1) p = _
      unfold SetTable.probe.go
      rw [show t.slot p.j = .live i from e]
      simp only [e', if_true]
      rfl
  | m + 1, fuel + 1, p, hm, hb => by
    obtain ⟨i, e1, e2⟩ := hb 0 (by omega)
    have e1' : t.slot p.j = .live i := e1
    have := go_first m fuel (advM t.mask p) (by omega) fun m' hm' => hb (m' + 1) (by omega)
    have eg : SetTable.probe.go t hashAt h (fuel + 1) p = SetTable.probe.go t hashAt h fuel (advM t.mask p) := by
      rw [SetTable.probe.go]
      rw [e1']
      simp only [e2, Bool.false_eq_true, if_false]
      rfl
    rw [eg]
    obtain ⟨h1, h2⟩ := this
    rw [adv_dummy] at h1
    exact ⟨h1, h2⟩
structure TabOk (mask : Nat) (PL : List (Nat × Int)) : Prop where
  up : (PL.map (·.1)).Pairwise (· < ·)
  le : ∀ q ∈ PL, q.1 ≤ mask
  on : ∀ q ∈ PL, ∃ m < 10 * SetTable.turns mask, (pathM mask q.2 m).j = q.1 ∧ ∀ m' < m, (pathM mask q.2 m').j ∈ PL.map (·.1)
theorem some_free {mask : Nat} {L : List Nat} (hl : L.length ≤ mask) : ∃ j < mask + 1, j ∉ L := by
  refine Classical.byContradiction fun c => ?_
  have hall : ∀ j ∈ List.range (mask + 1), j ∈ L := fun j hj => Classical.byContradiction fun z => c ⟨j, List.mem_range.mp hj, z⟩
  have nd : (List.range (mask + 1)).Nodup := List.nodup_range
  have : (List.range (mask + 1)).length ≤ L.length := by
    have key : ∀ (l m : List Nat), l.Nodup → (∀ x ∈ l, x ∈ m) → l.length ≤ m.length := by
      intro l
      induction l with
      | nil => intro m _ _; exact Nat.zero_le _
      | cons a l ih =>
        intro m nd hm
        obtain ⟨n1, n2⟩ := List.nodup_cons.mp nd
        have ha := hm a (List.mem_cons_self ..)
        have := ih (m.erase a) n2 fun x hx => (List.mem_erase_of_ne (fun (e : x = a) => n1 (e ▸ hx))).mpr (hm x (List.mem_cons_of_mem _ hx))
        rw [List.length_erase_of_mem ha] at this
        have h0 : 0 < m.length := List.length_pos_of_mem ha
        simp only [List.length_cons]
        omega
    exact key _ _ nd hall
  rw [List.length_range] at this
  omega
theorem search {t : SetTable} {hashAt : Nat → Int} {PL : List (Nat × Int)} (T : TabOk t.mask PL) (hc : Cyc (t.mask + 1)) (hp : t.place.toList = PL.map (·.1)) (hd : t.dummies = #[]) (hl : PL.length ≤ t.mask) (hh : ∀ i, ∀ q, PL[i]? = some q → hashAt i = q.2) (h : Int) :
    (∃ i j next, PL[i]? = some (j, h) ∧ t.probe hashAt h (t.probeStart h) = some (.candidate j i next)) ∨
    ((∀ q ∈ PL, q.2 ≠ h) ∧ ∃ m < 10 * SetTable.turns t.mask, (pathM t.mask h m).j ∉ PL.map (·.1) ∧ (∀ m' < m, (pathM t.mask h m').j ∈ PL.map (·.1)) ∧ t.probe hashAt h (t.probeStart h) = some (.empty (pathM t.mask h m).j none)) := by
  have up : t.place.toList.Pairwise (· < ·) := by rw [hp]; exact T.up
  have lv : ∀ (j i : Nat), t.place[i]? = some j → ∃ q : Nat × Int, PL[i]? = some q ∧ q.1 = j := fun j i e => by
    have : t.place.toList[i]? = some j := by rw [Array.getElem?_toList]; exact e
    rw [hp, List.getElem?_map] at this
    obtain ⟨q, h1, h2⟩ := Option.map_eq_some_iff.mp this
    exact ⟨q, h1, h2⟩
  obtain ⟨j0, hj0, nj0⟩ := some_free (mask := t.mask) (L := PL.map (·.1)) (by rw [List.length_map]; exact hl)
  obtain ⟨m0, hm0, e0⟩ := path_all hc h hj0
  obtain ⟨m, ⟨hm1, hm2⟩, hmin⟩ := least (P := fun m => m < 10 * SetTable.turns t.mask ∧ ((pathM t.mask h m).j ∉ PL.map (·.1) ∨ ∃ i, t.slot (pathM t.mask h m).j = .live i ∧ (hashAt i == h) = true)) ⟨m0, hm0, .inl (by rw [e0]; exact nj0)⟩
  have hb : ∀ m' < m, ∃ i, t.slot (pathM t.mask h m').j = .live i ∧ (hashAt i == h) = false := fun m' hm' => by
    have hn := hmin m' hm'
    rcases slot_nodummy up hd (pathM t.mask h m').j with ⟨_, c⟩ | ⟨i, c, _⟩
    · exact absurd ⟨by omega, .inl (by rw [← hp]; exact c)⟩ hn
    · refine ⟨i, c, ?_⟩
      cases q : hashAt i == h with
      | false => rfl
      | true => exact absurd ⟨by omega, .inr ⟨i, c, q⟩⟩ hn
  have hin : ∀ m' < m, (pathM t.mask h m').j ∈ PL.map (·.1) := fun m' hm' => by
    refine Classical.byContradiction fun c => hmin m' hm' ⟨by omega, .inl c⟩
  obtain ⟨g1, g2⟩ := go_first (t := t) (hashAt := hashAt) (h := h) m (10 * SetTable.turns t.mask) (runM t.mask (SetTable.bits h % (t.mask + 1)) (SetTable.bits h)) hm1 hb
  rcases slot_nodummy up hd (pathM t.mask h m).j with ⟨e, c⟩ | ⟨i, e, c⟩
  · right
    rw [hp] at c
    refine ⟨fun q hq e' => ?_, m, hm1, c, hin, g1 e⟩
    obtain ⟨mq, _, h2, h3⟩ := T.on q hq
    rw [e'] at h2 h3
    have hqin : (pathM t.mask h mq).j ∈ PL.map (·.1) := by rw [h2]; exact List.mem_map_of_mem hq
    rcases Nat.lt_trichotomy mq m with z | z | z
    · obtain ⟨i, z1, z2⟩ := hb mq z
      obtain ⟨i', z3, z4⟩ := slot_live up (j := (pathM t.mask h mq).j) (by rw [hp]; exact hqin)
      rw [z1] at z3
      cases z3
      obtain ⟨q', z5, z6⟩ := lv _ _ z4
      have : q' = q := by
        obtain ⟨k, hk, ek⟩ := List.getElem_of_mem hq
        obtain ⟨hi', ei'⟩ := List.getElem?_eq_some_iff.mp z5
        have hki : k = i := by
          rcases Nat.lt_trichotomy k i with y | y | y
          · have := List.pairwise_iff_getElem.mp T.up k i (by simpa using hk) (by simpa using hi') y
            simp only [List.getElem_map, ek, ei', z6, h2] at this
            omega
          · exact y
          · have := List.pairwise_iff_getElem.mp T.up i k (by simpa using hi') (by simpa using hk) y
            simp only [List.getElem_map, ek, ei', z6, h2] at this
            omega
        subst hki
        rw [← ei', ← ek]
      have := hh i q' z5
      rw [‹q' = q›, e'] at this
      rw [this, beq_self_eq_true] at z2
      cases z2
    · subst z; exact c hqin
    · exact c (h3 m z)
  · left
    obtain ⟨q, z5, z6⟩ := lv _ _ c
    have hi : (hashAt i == h) = true := by
      rcases hm2 with z | ⟨i', z1, z2⟩
      · exact absurd (by rw [← z6]; exact List.mem_map_of_mem (List.mem_of_getElem? z5)) z
      · rw [e] at z1; cases z1; exact z2
    refine ⟨i, _, _, ?_, g2 i e hi⟩
    have := hh i q z5
    rw [z5]
    have e' : q.2 = h := by rw [← this]; exact eq_of_beq hi
    obtain ⟨a, b⟩ := q
    simp only at z6 e'
    rw [z6, e']
    rfl
theorem ins_perm {α : Type} (l : List α) (p : Nat) (x : α) : (l.take p ++ x :: l.drop p).Perm (x :: l) := by
  have := List.perm_middle (a := x) (l₁ := l.take p) (l₂ := l.drop p)
  rw [List.take_append_drop] at this
  exact this
theorem ins_up {xs : Array Nat} {j : Nat} (up : xs.toList.Pairwise (· < ·)) (hj : j ∉ xs.toList) : (xs.toList.take (SetTable.below xs j) ++ j :: xs.toList.drop (SetTable.below xs j)).Pairwise (· < ·) := by
  obtain ⟨h1, h2, h3⟩ := below_ok xs j up
  rw [List.pairwise_append]
  have lt : ∀ a ∈ xs.toList.take (SetTable.below xs j), a < j := fun a ha => by
    obtain ⟨i, hi, e⟩ := List.mem_take_iff_getElem.mp ha
    refine h2 i (by omega) a ?_
    rw [← Array.getElem?_toList, List.getElem?_eq_getElem (by omega), e]
  have ge : ∀ b ∈ xs.toList.drop (SetTable.below xs j), j < b := fun b hb => by
    obtain ⟨i, hi, e⟩ := List.mem_drop_iff_getElem.mp hb
    have := h3 (SetTable.below xs j + i) (by omega) b (by rw [← Array.getElem?_toList, List.getElem?_eq_getElem (by omega), e])
    have hne : b ≠ j := fun z => hj (z ▸ List.mem_of_mem_drop hb)
    omega
  refine ⟨up.sublist (List.take_sublist _ _), List.pairwise_cons.mpr ⟨ge, up.sublist (List.drop_sublist _ _)⟩, fun a ha b hb => ?_⟩
  rcases List.mem_cons.mp hb with e | hb
  · rw [e]; exact lt a ha
  · exact Nat.lt_trans (lt a ha) (ge b hb)
theorem TabOk.ins {mask : Nat} {PL : List (Nat × Int)} (T : TabOk mask PL) {h : Int} {m : Nat} (hm : m < 10 * SetTable.turns mask) (hn : (pathM mask h m).j ∉ PL.map (·.1)) (hb : ∀ m' < m, (pathM mask h m').j ∈ PL.map (·.1)) {xs : Array Nat} (hp : xs.toList = PL.map (·.1)) :
    TabOk mask (PL.take (SetTable.below xs (pathM mask h m).j) ++ ((pathM mask h m).j, h) :: PL.drop (SetTable.below xs (pathM mask h m).j)) := by
  have pm := ins_perm PL (SetTable.below xs (pathM mask h m).j) ((pathM mask h m).j, h)
  have mem : ∀ j, j ∈ (PL.take (SetTable.below xs (pathM mask h m).j) ++ ((pathM mask h m).j, h) :: PL.drop (SetTable.below xs (pathM mask h m).j)).map (·.1) ↔ j = (pathM mask h m).j ∨ j ∈ PL.map (·.1) := fun j => by
    rw [(pm.map (·.1)).mem_iff]; simp
  refine ⟨?_, fun q hq => ?_, fun q hq => ?_⟩
  · have := ins_up (xs := xs) (j := (pathM mask h m).j) (by rw [hp]; exact T.up) (by rw [hp]; exact hn)
    rw [hp] at this
    simpa using this
  · rcases List.mem_cons.mp (pm.mem_iff.mp hq) with e | hq
    · rw [e]; exact path_lt h m
    · exact T.le q hq
  · rcases List.mem_cons.mp (pm.mem_iff.mp hq) with e | hq
    · rw [e]
      exact ⟨m, hm, rfl, fun m' hm' => (mem _).mpr (.inr (hb m' hm'))⟩
    · obtain ⟨mq, h1, h2, h3⟩ := T.on q hq
      exact ⟨mq, h1, h2, fun m' hm' => (mem _).mpr (.inr (h3 m' hm'))⟩
end TF
namespace TF
open PySem
theorem leaps_front (mask : Nat) (p : Nat × Nat) : ∀ k, leaps mask (k + 1) p = leaps mask k (SetTable.leap mask p.1 p.2)
  | 0 => rfl
  | k + 1 => by
    show SetTable.leap mask (leaps mask (k + 1) p).1 (leaps mask (k + 1) p).2 = SetTable.leap mask (leaps mask k _).1 (leaps mask k _).2
    rw [leaps_front mask p k]
theorem free_ok {mask : Nat} {owner : Array (Option Nat)} (hsz : owner.size = mask + 1) : ∀ (fuel i perturb : Nat), i < mask + 1 → (∃ k < fuel, owner[(leaps mask k (i, perturb)).1]? = some none) →
    ∃ j m, SetTable.layClean.free mask owner fuel i perturb = some j ∧ m < 10 * fuel ∧ (itr mask m (runM mask i perturb)).j = j ∧ owner[j]? = some none ∧ ∀ m' < m, ∃ k, owner[(itr mask m' (runM mask i perturb)).j]? = some (some k)
  | 0, _, _, _, ⟨k, hk, _⟩ => absurd hk (Nat.not_lt_zero _)
  | fuel + 1, i, perturb, hi, ⟨k, hk, e⟩ => by
    have hrun : ∀ r, r ≤ SetTable.runEnd mask i - i → i + r < mask + 1 := fun r hr => by
      unfold SetTable.runEnd at hr; split at hr <;> omega
    have hle : i ≤ SetTable.runEnd mask i := by unfold SetTable.runEnd; split <;> omega
    have hl9 := run_len mask i
    have getD : ∀ r, r ≤ SetTable.runEnd mask i - i → owner[i + r]? = some (owner.getD (i + r) (some 0)) := fun r hr => by
      have := hrun r hr
      rw [Array.getElem?_eq_getElem (by omega), Array.getD_eq_getD_getElem?, Array.getElem?_eq_getElem (by omega)]
      rfl
    unfold SetTable.layClean.free
    cases hf : (List.range (SetTable.runEnd mask i + 1 - i)).find? fun k => (owner.getD (i + k) (some 0)).isNone with
    | some r =>
      have h1 := List.mem_of_find?_eq_some hf
      have h2 := List.find?_some hf
      rw [List.mem_range] at h1
      have hr : r ≤ SetTable.runEnd mask i - i := by omega
      refine ⟨i + r, r, rfl, by omega, by rw [run_in mask i perturb r hr], ?_, fun m' hm' => ?_⟩
      · rw [getD r hr, Option.isNone_iff_eq_none.mp h2]
      · rw [run_in mask i perturb m' (by omega)]
        show ∃ k, owner[i + m']? = some (some k)
        rw [getD m' (by omega)]
        have hb : ¬ (owner.getD (i + m') (some 0)).isNone = true := by
          obtain ⟨_, as, bs, hs, hall⟩ := List.find?_eq_some_iff_append.mp hf
          have hlen : as.length = r := by
            have := congrArg (fun l => l[as.length]?) hs
            simp only [List.getElem?_append_right (Nat.le_refl _), Nat.sub_self, List.getElem?_cons_zero] at this
            obtain ⟨z1, z2⟩ := List.getElem?_eq_some_iff.mp this
            rw [List.getElem_range] at z2
            exact z2
          have hm : m' ∈ as := by
            have : (List.range (SetTable.runEnd mask i + 1 - i))[m']? = some m' := by rw [List.getElem?_range (by omega)]
            rw [hs, List.getElem?_append_left (by omega)] at this
            exact List.mem_of_getElem? this
          have := hall m' hm
          exact fun z => by rw [z] at this; cases this
        cases q : owner.getD (i + m') (some 0) with
        | none => rw [q] at hb; exact absurd rfl hb
        | some k => exact ⟨k, rfl⟩
    | none =>
      have hall : ∀ r, r ≤ SetTable.runEnd mask i - i → ∃ k, owner[i + r]? = some (some k) := fun r hr => by
        have := List.find?_eq_none.mp hf r (by rw [List.mem_range]; omega)
        rw [getD r hr]
        cases q : owner.getD (i + r) (some 0) with
        | none => rw [q] at this; exact absurd rfl this
        | some k => exact ⟨k, rfl⟩
      cases k with
      | zero =>
        obtain ⟨k', e'⟩ := hall 0 (Nat.zero_le _)
        have e0 : owner[i]? = some none := e
        rw [Nat.add_zero, e0] at e'
        cases e'
      | succ k =>
        rw [leaps_front] at e
        obtain ⟨j, m, h1, h2, h3, h4, h5⟩ := free_ok hsz fuel (SetTable.leap mask i perturb).1 (SetTable.leap mask i perturb).2 (Nat.mod_lt _ (Nat.succ_pos _)) ⟨k, by omega, e⟩
        refine ⟨j, SetTable.runEnd mask i - i + 1 + m, h1, by omega, ?_, h4, fun m' hm' => ?_⟩
        · rw [itr_add, run_leap]; exact h3
        · by_cases c : m' ≤ SetTable.runEnd mask i - i
          · rw [run_in mask i perturb m' c]; exact hall m' c
          · have : m' = SetTable.runEnd mask i - i + 1 + (m' - (SetTable.runEnd mask i - i + 1)) := by omega
            rw [this, itr_add, run_leap]
            exact h5 _ (by omega)
structure Owns (mask : Nat) (hs : List Int) (js : List Nat) (owner : Array (Option Nat)) : Prop where
  size : owner.size = mask + 1
  len : js.length = hs.length
  nd : js.Nodup
  le : ∀ j ∈ js, j ≤ mask
  own : ∀ j k : Nat, owner[j]? = some (some k) ↔ js[k]? = some j
  none : ∀ j : Nat, j ≤ mask → j ∉ js → owner[j]? = some none
  on : ∀ (k : Nat) (j : Nat) (h : Int), js[k]? = some j → hs[k]? = some h → ∃ m < 10 * SetTable.turns mask, (pathM mask h m).j = j ∧ ∀ m' < m, (pathM mask h m').j ∈ js
def layStep (mask : Nat) (acc : Option (Array (Option Nat) × Nat)) (h : Int) : Option (Array (Option Nat) × Nat) := do
    let (owner, k) ← acc
    let j ← SetTable.layClean.free mask owner (SetTable.turns mask) (SetTable.bits h % (mask + 1)) (SetTable.bits h)
    pure (owner.setIfInBounds j (some k), k + 1)
theorem layClean_eq (mask : Nat) (hashes : Array Int) : SetTable.layClean mask hashes = (hashes.toList.foldl (layStep mask) (some (Array.replicate (mask + 1) none, 0))).map (·.1) := by
  unfold SetTable.layClean
  rw [← Array.foldl_toList]
  rfl
theorem owns_step {mask : Nat} (hc : Cyc (mask + 1)) {hs : List Int} {js : List Nat} {owner : Array (Option Nat)} (O : Owns mask hs js owner) (hl : js.length ≤ mask) (h : Int) : ∃ j, layStep mask (some (owner, hs.length)) h = some (owner.setIfInBounds j (some hs.length), hs.length + 1) ∧ Owns mask (hs ++ [h]) (js ++ [j]) (owner.setIfInBounds j (some hs.length)) := by
  have hi : SetTable.bits h % (mask + 1) < mask + 1 := Nat.mod_lt _ (Nat.succ_pos _)
  obtain ⟨j0, hj0, nj0⟩ := some_free hl
  obtain ⟨a, ha, ea⟩ := hc _ (leaps_lt mask _ (SetTable.bits h) hi 13) j0 hj0
  obtain ⟨j, m, h1, h2, h3, h4, h5⟩ := free_ok O.size (SetTable.turns mask) (SetTable.bits h % (mask + 1)) (SetTable.bits h) hi ⟨13 + a, by unfold SetTable.turns; omega, by
    rw [leaps_late mask _ _ (bits_lt h), ea]
    exact O.none j0 (by omega) nj0⟩
  have hjs : j < owner.size := (Array.getElem?_eq_some_iff.mp h4).1
  have hjn : j ∉ js := fun hj => by
    obtain ⟨k, hk, e⟩ := List.getElem_of_mem hj
    have := (O.own j k).mpr (by rw [List.getElem?_eq_getElem hk, e])
    rw [h4] at this
    cases this
  have hjm : j ≤ mask := by rw [O.size] at hjs; omega
  refine ⟨j, ?_, ?_, ?_, ?_, ?_, ?_, ?_, ?_⟩
  · unfold layStep
    simp only [Option.bind_eq_bind, Option.bind_some, h1]
    rfl
  · rw [Array.size_setIfInBounds, O.size]
  · simp [O.len]
  · rw [List.nodup_append]
    refine ⟨O.nd, by simp, fun x hx y hy => ?_⟩
    rw [List.mem_singleton.mp hy]
    rintro rfl
    exact hjn hx
  · intro x hx
    rcases List.mem_append.mp hx with hx | hx
    · exact O.le x hx
    · rw [List.mem_singleton.mp hx]; exact hjm
  · intro x k
    by_cases hx : x = j
    · subst hx
      rw [Array.getElem?_setIfInBounds_self_of_lt hjs]
      constructor
      · intro e
        cases e
        rw [← O.len, List.getElem?_append_right (Nat.le_refl _), Nat.sub_self]
        rfl
      · intro e
        by_cases hk : k < js.length
        · rw [List.getElem?_append_left hk] at e
          exact absurd (List.mem_of_getElem? e) hjn
        · have hk' : k < (js ++ [x]).length := (List.getElem?_eq_some_iff.mp e).1
          have : k = hs.length := by simp at hk'; have := O.len; omega
          rw [this]
    · rw [Array.getElem?_setIfInBounds_ne (Ne.symm hx), O.own]
      constructor
      · intro e
        rw [List.getElem?_append_left (List.getElem?_eq_some_iff.mp e).1]
        exact e
      · intro e
        by_cases hk : k < js.length
        · rw [List.getElem?_append_left hk] at e; exact e
        · rw [List.getElem?_append_right (by omega)] at e
          have := List.mem_of_getElem? e
          rw [List.mem_singleton] at this
          exact absurd this hx
  · intro x hx hn
    rw [List.mem_append, List.mem_singleton, not_or] at hn
    rw [Array.getElem?_setIfInBounds_ne (fun e => hn.2 e.symm)]
    exact O.none x hx hn.1
  · intro k x h' e1 e2
    by_cases hk : k < js.length
    · rw [List.getElem?_append_left hk] at e1
      rw [List.getElem?_append_left (by rw [← O.len]; exact hk)] at e2
      obtain ⟨mq, z1, z2, z3⟩ := O.on k x h' e1 e2
      exact ⟨mq, z1, z2, fun m' hm' => List.mem_append_left _ (z3 m' hm')⟩
    · rw [List.getElem?_append_right (by omega)] at e1
      rw [List.getElem?_append_right (by rw [← O.len]; omega), ← O.len] at e2
      have hk0 : k - js.length = 0 := by
        have := (List.getElem?_eq_some_iff.mp e1).1
        simp at this; omega
      rw [hk0] at e1 e2
      cases e1
      cases e2
      refine ⟨m, h2, h3, fun m' hm' => List.mem_append_left _ ?_⟩
      obtain ⟨k', hk'⟩ := h5 m' hm'
      exact List.mem_of_getElem? ((O.own _ _).mp hk')
theorem owns_all {mask : Nat} (hc : Cyc (mask + 1)) : ∀ (rest hs : List Int) (js : List Nat) (owner : Array (Option Nat)), Owns mask hs js owner → (hs ++ rest).length ≤ mask + 1 →
    ∃ js' owner', rest.foldl (layStep mask) (some (owner, hs.length)) = some (owner', (hs ++ rest).length) ∧ Owns mask (hs ++ rest) js' owner'
  | [], hs, js, owner, O, _ => ⟨js, owner, by simp, by simpa using O⟩
  | h :: rest, hs, js, owner, O, hl => by
    have hl' : js.length ≤ mask := by rw [O.len]; simp at hl; omega
    obtain ⟨j, e, O'⟩ := owns_step hc O hl' h
    obtain ⟨js', owner', e', O''⟩ := owns_all hc rest (hs ++ [h]) _ _ O' (by simpa using hl)
    refine ⟨js', owner', ?_, by simpa using O''⟩
    rw [List.foldl_cons, e]
    simpa using e'
theorem laid_ok {mask : Nat} (hc : Cyc (mask + 1)) (finger moves : Nat) (led plain : Bool) {hashes : Array Int} (hl : hashes.size ≤ mask + 1) :
    ∃ live : List (Nat × Nat), SetTable.laid mask finger moves led plain hashes = some ({ mask, place := (live.map (·.1)).toArray, dummies := #[], finger, led, moves, plain }, (live.map (·.2)).toArray) ∧
      (live.map (·.2)).Perm (List.range hashes.size) ∧ ∀ g : Nat → Int, (∀ k h, hashes[k]? = some h → g k = h) → TabOk mask (live.map fun p => (p.1, g p.2)) := by
  have O0 : Owns mask [] [] (Array.replicate (mask + 1) none) := by
    refine ⟨by simp, rfl, List.nodup_nil, by simp, fun j k => ?_, fun j hj _ => ?_, fun k j h e => by simp at e⟩
    · constructor
      · intro e
        obtain ⟨h1, h2⟩ := Array.getElem?_eq_some_iff.mp e
        simp at h2
      · intro e; simp at e
    · rw [Array.getElem?_eq_getElem (by simp; omega)]
      simp
  obtain ⟨js, owner, e, O⟩ := owns_all hc hashes.toList [] [] _ O0 (by simpa using hl)
  have e1 : SetTable.layClean mask hashes = some owner := by rw [layClean_eq, show (some (Array.replicate (mask + 1) none, 0) : Option (Array (Option Nat) × Nat)) = some (Array.replicate (mask + 1) none, ([] : List Int).length) from rfl, e]; rfl
  rw [List.nil_append] at O
  refine ⟨(List.range (mask + 1)).filterMap fun j => (owner.getD j none).map (j, ·), ?_, ?_, fun g hg => ?_⟩
  · unfold SetTable.laid
    rw [e1]
    rfl
  all_goals
    have mem : ∀ j k, (j, k) ∈ ((List.range (mask + 1)).filterMap fun j => (owner.getD j none).map (j, ·)) ↔ js[k]? = some j := fun j k => by
      rw [List.mem_filterMap]
      constructor
      · rintro ⟨a, ha, e⟩
        obtain ⟨k', e1, e2⟩ := Option.map_eq_some_iff.mp e
        cases e2
        rw [← O.own]
        rw [List.mem_range] at ha
        rw [Array.getD_eq_getD_getElem?] at e1
        rw [Array.getElem?_eq_getElem (by rw [O.size]; exact ha)] at e1 ⊢
        simpa using e1
      · intro e
        have hj := O.le j (List.mem_of_getElem? e)
        refine ⟨j, List.mem_range.mpr (by omega), ?_⟩
        rw [Array.getD_eq_getD_getElem?, (O.own j k).mpr e]
        rfl
    have up : (((List.range (mask + 1)).filterMap fun j => (owner.getD j none).map (j, ·)).map (·.1)).Pairwise (· < ·) := by
      have : ∀ l : List Nat, l.Pairwise (· < ·) → ((l.filterMap fun j => (owner.getD j none).map (j, ·)).map (·.1)).Sublist l := by
        intro l _
        induction l with
        | nil => simp
        | cons a l ih =>
          rename_i h
          rw [List.filterMap_cons]
          split
          · exact (ih (List.pairwise_cons.mp h).2).cons _
          · rename_i q hq
            obtain ⟨_, _, e2⟩ := Option.map_eq_some_iff.mp hq
            rw [← e2]
            exact (ih (List.pairwise_cons.mp h).2).cons₂ _
      exact List.pairwise_lt_range.sublist (this _ List.pairwise_lt_range)
  · rw [List.perm_ext_iff_of_nodup _ List.nodup_range]
    · intro k
      rw [List.mem_map, List.mem_range]
      constructor
      · rintro ⟨⟨j, k'⟩, h1, rfl⟩
        have := (List.getElem?_eq_some_iff.mp ((mem j k').mp h1)).1
        rw [O.len] at this
        simpa using this
      · intro hk
        have hk' : k < js.length := by rw [O.len]; simpa using hk
        exact ⟨(js[k], k), (mem _ _).mpr (List.getElem?_eq_getElem hk'), rfl⟩
    · have h1 := List.pairwise_map.mp up
      unfold List.Nodup
      rw [List.pairwise_map]
      refine h1.imp_of_mem fun {a b} ha hb hlt e => ?_
      obtain ⟨j1, k1⟩ := a
      obtain ⟨j2, k2⟩ := b
      simp only at e hlt
      subst e
      have z1 := (mem j1 k1).mp ha
      rw [(mem j2 k1).mp hb] at z1
      cases z1
      omega
  · refine ⟨by rw [List.map_map]; exact up, fun q hq => ?_, fun q hq => ?_⟩
    · obtain ⟨⟨j, k⟩, h1, rfl⟩ := List.mem_map.mp hq
      exact O.le j (List.mem_of_getElem? ((mem j k).mp h1))
    · obtain ⟨⟨j, k⟩, h1, rfl⟩ := List.mem_map.mp hq
      have hj := (mem j k).mp h1
      have hk : k < hashes.toList.length := by rw [← O.len]; exact (List.getElem?_eq_some_iff.mp hj).1
      obtain ⟨m, z1, z2, z3⟩ := O.on k j hashes.toList[k] hj (List.getElem?_eq_getElem hk)
      have hgk : g k = hashes.toList[k] := hg k _ (by rw [← Array.getElem?_toList, List.getElem?_eq_getElem hk])
      simp only [hgk]
      refine ⟨m, z1, z2, fun m' hm' => ?_⟩
      obtain ⟨k', hk', e'⟩ := List.getElem_of_mem (z3 m' hm')
      rw [List.map_map, List.mem_map]
      exact ⟨((pathM mask hashes.toList[k] m').j, k'), (mem _ _).mpr (by rw [List.getElem?_eq_getElem hk', e']), rfl⟩
end TF
namespace TF
open PySem
structure EK (prog : Program) (w : World) (K : Type) [DecidableEq K] where
  is : Heap → K → Value → Prop
  hash : K → Int
  room : Around → Prop
  noscan : ∀ {h k u}, is h k u → u.scannable = false
  eqBool : ∀ {A : Around} {E : Value → Shared → Prop} {s : Shared} {x y : K} {u v : Value} {Q : Bool → Shared → Prop}, room A → is s.heap x u → is s.heap y v → Q (decide (x = y)) s → wpAny (model prog w) A (PySem.eqBool u v) Q E s
  byValue : ∀ {A : Around} {E : Value → Shared → Prop} {s : Shared} {x : K} {u : Value} {Q : Bool → Shared → Prop}, is s.heap x u → Q true s → wpAny (model prog w) A (hashByValue 8 u) Q E s
  unseen : ∀ {A : Around} {E : Value → Shared → Prop} {s : Shared} {x : K} {u : Value} {vs : List Value} {Q : Bool → Shared → Prop}, is s.heap x u → (∀ v ∈ vs, ∃ y, is s.heap y v) → Q false s → wpAny (model prog w) A (searchCouldBeSeen u vs) Q E s
  pyHash : ∀ {A : Around} {E : Value → Shared → Prop} {s : Shared} {x : K} {u : Value} {Q : Int → Shared → Prop}, room A → is s.heap x u → (∀ tk, Q (hash x) { s with toks := tk }) → wpAny (model prog w) A (PySem.pyHash u) Q E s
  keeps : ∀ {h h' : Heap} {k : K} {u : Value}, is h k u → (∀ b o, h.get? b = some o → (∀ es ep t, o.data ≠ .set es ep t) → (∀ vs, o.data ≠ .fields vs) → h'.get? b = some o) → is h' k u
section
variable {prog : Program} {w : World} {K : Type} [DecidableEq K] (knd : EK prog w K)
def Cap (mask n : Nat) : Prop := (mask = 7 ∧ n ≤ 4) ∨ (mask = 31 ∧ n ≤ 18) ∨ (mask = 127 ∧ n ≤ 76)
structure ElP (h : Heap) (k : K) (e : Int × Value) : Prop where
  hash : e.1 = knd.hash k
  is : knd.is h k e.2
structure TabD (h : Heap) (es : Array (Int × Value)) (t : SetTable) (ks : List K) : Prop where
  ex : ∃ js : List Nat, TabOk t.mask (js.zip (es.toList.map (·.1))) ∧ t.place.toList = js ∧ js.length = es.size
  nod : t.dummies = #[]
  els : ∃ ks' : List K, ks'.Perm ks ∧ ks'.length = es.size ∧ ∀ (i : Nat) k e, ks'[i]? = some k → es[i]? = some e → ElP knd h k e
  nd : ks.Nodup
def SetAt (h : Heap) (a : Addr) (ks : List K) : Prop := ∃ o es ep t, h.get? a = some o ∧ o.ExactSet ∧ o.data = .set es ep t ∧ TabD knd h es t ks ∧ Cap t.mask es.size ∧ t.plain = true ∧ t.led = !w.params.followText "set-order"
variable {knd}
theorem TabD.size {h : Heap} {es : Array (Int × Value)} {t : SetTable} {ks : List K} (T : TabD knd h es t ks) : es.size = ks.length := by
  obtain ⟨ks', p, e, _⟩ := T.els
  rw [← e, p.length_eq]
theorem TabD.fits {h : Heap} {es : Array (Int × Value)} {t : SetTable} {ks : List K} (T : TabD knd h es t ks) (hm : es.size ≤ t.mask) : t.fits es.size = true := by
  obtain ⟨js, T1, e1, e2⟩ := T.ex
  have : t.place.size = es.size := by rw [← Array.length_toList, e1, e2]
  unfold SetTable.fits SetTable.fill
  rw [T.nod, this]
  simp [hm]
theorem zip_fst {α β : Type} : ∀ {l : List α} {m : List β}, l.length = m.length → (l.zip m).map (·.1) = l
  | [], _, _ => by simp
  | a :: l, [], h => by simp at h
  | a :: l, b :: m, h => by
    simp only [List.zip_cons_cons, List.map_cons, List.cons.injEq, true_and]
    exact zip_fst (by simpa using h)
theorem zip_get {α β : Type} {l : List α} {m : List β} {i : Nat} {p : α × β} (h : (l.zip m)[i]? = some p) : l[i]? = some p.1 ∧ m[i]? = some p.2 := by
  rw [List.getElem?_zip_eq_some] at h
  exact h
variable {A : Around} {E : Value → Shared → Prop} {s : Shared}
theorem wp_search {a : Addr} {o : Obj} {es : Array (Int × Value)} {ep : Nat} {t : SetTable} {ks : List K} {k : K} {u : Value} {Q : SetFound → Shared → Prop} (ho : s.heap.get? a = some o) (hd : o.data = .set es ep t) (T : TabD knd s.heap es t ks)
    (hc : Cyc (t.mask + 1)) (hodd : t.mask % 2 = 1) (hm : es.size ≤ t.mask) (hr : knd.room A) (hk : knd.is s.heap k u) (inj : ∀ k' ∈ ks, knd.hash k' = knd.hash k → k' = k)
    (h1 : k ∈ ks → Q (.there none) s)
    (h2 : k ∉ ks → ∀ m, m < 10 * SetTable.turns t.mask → (pathM t.mask (knd.hash k) m).j ∉ t.place.toList → (∀ m' < m, (pathM t.mask (knd.hash k) m').j ∈ t.place.toList) → Q (.free (pathM t.mask (knd.hash k) m).j false) s) :
    wpAny (model prog w) A (setSearch a u (knd.hash k) true) Q E s := by
  have hf := T.fits hm
  obtain ⟨js, T1, e1, e2⟩ := T.ex
  obtain ⟨ks', pm, hl, hel⟩ := T.els
  have hlen : js.length = (es.toList.map (·.1)).length := by rw [e2, List.length_map, Array.length_toList]
  have hfst := zip_fst hlen
  have kOf : ∀ i e, es[i]? = some e → ∃ k', ks'[i]? = some k' ∧ k' ∈ ks ∧ ElP knd s.heap k' e := fun i e he => by
    have hi : i < ks'.length := by rw [hl]; exact (Array.getElem?_eq_some_iff.mp he).1
    exact ⟨ks'[i], List.getElem?_eq_getElem hi, pm.mem_iff.mp (List.getElem_mem hi), hel i _ e (List.getElem?_eq_getElem hi) he⟩
  unfold setSearch
  rw [setSearchFrom]
  refine wpAny_bind (wpAny_setState_of ho hd hf ?_)
  dsimp only
  have hg : t.gaveWay = false := by unfold SetTable.gaveWay; rw [hodd]; rfl
  rw [hg]
  simp only [Bool.false_eq_true, if_false, Option.getD_none]
  generalize hH : (fun (i : Nat) => (es[i]?.map (·.1)).getD 0) = hashAt
  have hhash : ∀ i, hashAt i = (es[i]?.map (·.1)).getD 0 := fun i => by rw [← hH]
  have res := search (t := t) (hashAt := hashAt) T1 hc (by rw [hfst]; exact e1) T.nod (by rw [List.length_zip, ← hlen, Nat.min_self, e2]; exact hm) (fun i q hq => by
    obtain ⟨_, z2⟩ := zip_get hq
    rw [List.getElem?_map, Array.getElem?_toList] at z2
    rw [hhash, z2]; rfl) (knd.hash k)
  have probeEq : ∀ f : Nat → Int, (∀ i, f i = hashAt i) → t.probe f (knd.hash k) (t.probeStart (knd.hash k)) = t.probe hashAt (knd.hash k) (t.probeStart (knd.hash k)) := fun f hf' => by rw [funext hf']
  rw [probeEq _ (fun i => by rw [hhash]; rfl)]
  rcases res with ⟨i, j, next, hi, e⟩ | ⟨hno, m, hm1, hm2, hm3, e⟩
  · rw [e]
    dsimp only
    obtain ⟨z1, z2⟩ := zip_get hi
    rw [List.getElem?_map, Array.getElem?_toList] at z2
    obtain ⟨ent, he, he'⟩ := Option.map_eq_some_iff.mp z2
    obtain ⟨k', hk1, hk2, hE⟩ := kOf i ent he
    have hkk : k' = k := inj k' hk2 (by rw [← hE.hash]; exact he')
    subst hkk
    cases hled : t.led
    · simp only [Bool.not_false, if_true]
      refine wpAny_bind (knd.unseen hk (fun v hv => ?_) ?_)
      · obtain ⟨e', he1, rfl⟩ := List.mem_map.mp hv
        have : e' ∈ es := by
          have := (Array.mem_filter.mp (Array.mem_toList_iff.mp he1)).1
          exact this
        obtain ⟨i', hi1, hi2⟩ := Array.getElem_of_mem this
        obtain ⟨k2, _, _, hE2⟩ := kOf i' e' (by rw [Array.getElem?_eq_getElem hi1, hi2])
        exact ⟨k2, hE2.is⟩
      simp only [Bool.false_eq_true, if_false]
      rw [he]
      dsimp only
      refine wpAny_bind (wpAny_holding (knd.eqBool hr hE.is hk ?_))
      rw [decide_eq_true rfl]
      refine wpAny_bind (wpAny_setState_of ho hd hf ?_)
      dsimp only
      simp only [Bool.and_self, if_true]
      exact wpAny_pure (h1 hk2)
    · simp only [Bool.not_true, Bool.false_eq_true, if_false]
      rw [he]
      dsimp only
      refine wpAny_bind (wpAny_holding (knd.eqBool hr hE.is hk ?_))
      rw [decide_eq_true rfl]
      refine wpAny_bind (wpAny_setState_of ho hd hf ?_)
      dsimp only
      simp only [Bool.and_self, if_true]
      exact wpAny_pure (h1 hk2)
  · rw [e]
    dsimp only
    rw [hfst] at hm2 hm3
    refine wpAny_pure (h2 (fun hin => ?_) m hm1 (by rw [e1]; exact hm2) (by rw [e1]; exact hm3))
    obtain ⟨i, hi, ei⟩ := List.getElem_of_mem (pm.mem_iff.mpr hin)
    have hi' : i < es.size := by rw [← hl]; exact hi
    have hE := hel i k es[i] (by rw [List.getElem?_eq_getElem hi, ei]) (Array.getElem?_eq_getElem hi')
    have hij : i < js.length := by rw [e2]; exact hi'
    refine hno (js[i], es[i].1) ?_ hE.hash
    have : (js.zip (es.toList.map (·.1)))[i]? = some (js[i], es[i].1) := by
      rw [List.getElem?_zip_eq_some]
      refine ⟨List.getElem?_eq_getElem hij, ?_⟩
      rw [List.getElem?_map, Array.getElem?_toList, Array.getElem?_eq_getElem hi']
      rfl
    exact List.mem_of_getElem? this
end
end TF
namespace TF
open PySem
theorem ins_get {α : Type} {l : List α} {p : Nat} (hp : p ≤ l.length) (x : α) (i : Nat) : (l.take p ++ x :: l.drop p)[i]? = if i < p then l[i]? else if i = p then some x else l[i - 1]? := by
  by_cases h1 : i < p
  · rw [if_pos h1, List.getElem?_append_left (by rw [List.length_take]; omega), List.getElem?_take_of_lt h1]
  · rw [if_neg h1, List.getElem?_append_right (by rw [List.length_take]; omega), List.length_take, Nat.min_eq_left hp]
    by_cases h2 : i = p
    · rw [if_pos h2, h2, Nat.sub_self]; rfl
    · rw [if_neg h2, show i - p = (i - p - 1) + 1 by omega, List.getElem?_cons_succ, List.getElem?_drop]
      congr 1
      omega
theorem ins_zip {α β : Type} {l : List α} {m : List β} (h : l.length = m.length) {p : Nat} (hp : p ≤ l.length) (x : α) (y : β) : (l.take p ++ x :: l.drop p).zip (m.take p ++ y :: m.drop p) = (l.zip m).take p ++ (x, y) :: (l.zip m).drop p := by
  rw [List.zip_append (by rw [List.length_take, List.length_take, h]), List.zip_cons_cons]
  have tz : ∀ (n : Nat) (l : List α) (m : List β), (l.take n).zip (m.take n) = (l.zip m).take n ∧ (l.drop n).zip (m.drop n) = (l.zip m).drop n := by
    intro n
    induction n with
    | zero => intro l m; simp
    | succ n ih =>
      intro l m
      cases l with
      | nil => simp
      | cons a l =>
        cases m with
        | nil => simp
        | cons b m => simp [ih l m]
  rw [(tz p l m).1, (tz p l m).2]
theorem ins_map {α β : Type} (f : α → β) (l : List α) (p : Nat) (x : α) : (l.take p ++ x :: l.drop p).map f = (l.map f).take p ++ f x :: (l.map f).drop p := by
  rw [List.map_append, List.map_cons, List.map_take, List.map_drop]
section
variable {prog : Program} {w : World} {K : Type} [DecidableEq K] {knd : EK prog w K} {A : Around} {E : Value → Shared → Prop} {s : Shared}
theorem TabD.keeps {h h' : Heap} {es : Array (Int × Value)} {t : SetTable} {ks : List K} {a : Addr} {o : Obj} {es' ep' t'} (T : TabD knd h es t ks) (ho : h.get? a = some o) (hd : o.data = .set es' ep' t') (hs : Heap.SameBut a h h') : TabD knd h' es t ks := by
  obtain ⟨ks', pm, hl, hel⟩ := T.els
  exact ⟨T.ex, T.nod, ⟨ks', pm, hl, fun i k e h1 h2 => ⟨(hel i k e h1 h2).hash, knd.keeps (hel i k e h1 h2).is fun b o' hb hs' _ => hs.extBut b o' (fun z => by subst z; rw [ho] at hb; cases hb; exact hs' _ _ _ hd) hb⟩⟩, T.nd⟩
theorem TabD.kept {h h' : Heap} {es : Array (Int × Value)} {t : SetTable} {ks : List K} (T : TabD knd h es t ks) (hk : ∀ b o, h.get? b = some o → (∀ es ep t, o.data ≠ .set es ep t) → (∀ vs, o.data ≠ .fields vs) → h'.get? b = some o) : TabD knd h' es t ks := by
  obtain ⟨ks', pm, hl, hel⟩ := T.els
  exact ⟨T.ex, T.nod, ⟨ks', pm, hl, fun i k e h1 h2 => ⟨(hel i k e h1 h2).hash, knd.keeps (hel i k e h1 h2).is hk⟩⟩, T.nd⟩
theorem TabD.ins {h : Heap} {es : Array (Int × Value)} {t : SetTable} {ks : List K} {k : K} {u : Value} (T : TabD knd h es t ks) (hk : knd.is h k u) (hn : k ∉ ks) {m : Nat} (hm : m < 10 * SetTable.turns t.mask)
    (hj : (pathM t.mask (knd.hash k) m).j ∉ t.place.toList) (hb : ∀ m' < m, (pathM t.mask (knd.hash k) m').j ∈ t.place.toList) :
    TabD knd h (SetTable.insertAt es (SetTable.below t.place (pathM t.mask (knd.hash k) m).j) (knd.hash k, u)) (t.put (pathM t.mask (knd.hash k) m).j).1 (k :: ks) := by
  obtain ⟨js, T1, e1, e2⟩ := T.ex
  obtain ⟨ks', pm, hl, hel⟩ := T.els
  have hlen : js.length = (es.toList.map (·.1)).length := by rw [e2, List.length_map, Array.length_toList]
  have up : t.place.toList.Pairwise (· < ·) := by have := T1.up; rw [zip_fst hlen] at this; rw [e1]; exact this
  have hp := (below_ok t.place (pathM t.mask (knd.hash k) m).j up).1
  have hps : t.place.size = es.size := by rw [← Array.length_toList, e1, e2]
  have hdum : (t.put (pathM t.mask (knd.hash k) m).j).1.dummies = #[] := by
    unfold SetTable.put
    have : SetTable.has t.dummies (pathM t.mask (knd.hash k) m).j = false := by rw [T.nod]; rfl
    simp only [this, Bool.false_eq_true, if_false]
    exact T.nod
  generalize hpp : SetTable.below t.place (pathM t.mask (knd.hash k) m).j = p at hp
  have hsz : (SetTable.insertAt es p (knd.hash k, u)).size = es.size + 1 := by
    rw [← Array.length_toList, SetTable.toList_insertAt, List.length_append, List.length_cons, List.length_take, List.length_drop, Array.length_toList]; omega
  refine ⟨⟨js.take p ++ (pathM t.mask (knd.hash k) m).j :: js.drop p, ?_, ?_, ?_⟩, hdum, ⟨ks'.take p ++ k :: ks'.drop p, ?_, ?_, fun i k' e h1 h2 => ?_⟩, List.nodup_cons.mpr ⟨hn, T.nd⟩⟩
  · rw [SetTable.toList_insertAt, ins_map, ins_zip hlen (by rw [e2]; omega)]
    have := T1.ins (h := knd.hash k) hm (by rw [zip_fst hlen, ← e1]; exact hj) (by rw [zip_fst hlen, ← e1]; exact hb) (xs := t.place) (by rw [zip_fst hlen]; exact e1)
    rw [hpp] at this
    exact this
  · show (SetTable.insertAt t.place (SetTable.below t.place _) _).toList = _
    rw [SetTable.toList_insertAt, hpp, e1]
  · rw [hsz, List.length_append, List.length_cons, List.length_take, List.length_drop, e2]; omega
  · exact (ins_perm ks' p k).trans (pm.cons k)
  · rw [hsz, List.length_append, List.length_cons, List.length_take, List.length_drop, hl]; omega
  · rw [ins_get (by rw [hl]; omega)] at h1
    rw [← Array.getElem?_toList, SetTable.toList_insertAt, ins_get (by rw [Array.length_toList]; omega)] at h2
    by_cases c1 : i < p
    · rw [if_pos c1] at h1 h2
      exact hel i k' e h1 (by rw [← Array.getElem?_toList]; exact h2)
    · rw [if_neg c1] at h1 h2
      by_cases c2 : i = p
      · rw [if_pos c2] at h1 h2
        cases h1; cases h2
        exact ⟨rfl, hk⟩
      · rw [if_neg c2] at h1 h2
        exact hel (i - 1) k' e h1 (by rw [← Array.getElem?_toList]; exact h2)
theorem TabD.relay {h : Heap} {es : Array (Int × Value)} {t : SetTable} {ks : List K} (T : TabD knd h es t ks) {wanted : Nat} {live : List (Nat × Nat)} {t' : SetTable} (e : t' = { mask := SetTable.sizeAbove wanted - 1, place := (live.map (·.1)).toArray, dummies := #[], finger := t.finger, led := t.led, moves := t.movedTo (SetTable.sizeAbove wanted - 1), plain := t.plain })
    (hp : (live.map (·.2)).Perm (List.range es.size)) (hg : ∀ g : Nat → Int, (∀ k h, (es.map (·.1))[k]? = some h → g k = h) → TabOk (SetTable.sizeAbove wanted - 1) (live.map fun p => (p.1, g p.2))) :
    ((live.map (·.2)).toArray.filterMap (es[·]?)).size = es.size ∧ TabD knd h ((live.map (·.2)).toArray.filterMap (es[·]?)) t' ks := by
  obtain ⟨ks', pm, hl, hel⟩ := T.els
  have hlt : ∀ q ∈ live, q.2 < es.size := fun q hq => List.mem_range.mp (hp.mem_iff.mp (List.mem_map_of_mem hq))
  have fm : ∀ {β : Type} (l : List β) (n : Nat), n = l.length → (∀ q ∈ live, q.2 < n) → ∀ d : β, (live.map (·.2)).filterMap (l[·]?) = live.map fun q => l.getD q.2 d := by
    intro β l n hn hlt' d
    clear hlt hp hg e
    induction live with
    | nil => rfl
    | cons q r ih =>
      have hq : q.2 < l.length := by rw [← hn]; exact hlt' q (List.mem_cons_self ..)
      rw [List.map_cons, List.filterMap_cons_some (List.getElem?_eq_getElem hq), List.map_cons, ih (fun q hq => hlt' q (List.mem_cons_of_mem _ hq)), List.getD_eq_getElem?_getD, List.getElem?_eq_getElem hq]
      rfl
  have hle : live.length = es.size := by have := hp.length_eq; rw [List.length_map, List.length_range] at this; exact this
  have hes : ((live.map (·.2)).toArray.filterMap (es[·]?)).toList = live.map fun q => es.toList.getD q.2 (0, .none) := by
    rw [Array.toList_filterMap]
    have : (fun (x : Nat) => es[x]?) = fun x => es.toList[x]? := funext fun x => by rw [Array.getElem?_toList]
    rw [this]
    exact fm es.toList es.size (by rw [Array.length_toList]) hlt _
  have hsz : ((live.map (·.2)).toArray.filterMap (es[·]?)).size = es.size := by rw [← Array.length_toList, hes, List.length_map, hle]
  refine ⟨hsz, ⟨live.map (·.1), ?_, by rw [e], by rw [List.length_map, hle, hsz]⟩, by rw [e], ?_, T.nd⟩
  · have := hg (fun k => (es.toList.getD k (0, .none)).1) (fun k h' hk => by
      rw [Array.getElem?_map] at hk
      obtain ⟨x, h1, h2⟩ := Option.map_eq_some_iff.mp hk
      rw [List.getD_eq_getElem?_getD, Array.getElem?_toList, h1]
      exact h2)
    rw [hes, e]
    have ez : (live.map (·.1)).zip ((live.map fun q => es.toList.getD q.2 (0, .none)).map (·.1)) = live.map fun p => (p.1, (es.toList.getD p.2 (0, .none)).1) := by
      rw [List.map_map]
      clear hp hg e hlt hle hes hsz this fm
      induction live with
      | nil => rfl
      | cons q r ih => simp only [List.map_cons, List.zip_cons_cons, ih, Function.comp]
    rw [ez]
    exact this
  · cases hk0 : ks' with
    | nil =>
      have : es.size = 0 := by rw [← hl, hk0]; rfl
      refine ⟨[], by rw [← hk0]; exact pm, by rw [hsz, this]; rfl, fun i k e' h1 => by simp at h1⟩
    | cons kd kr =>
      have hks : (live.map (·.2)).filterMap (ks'[·]?) = live.map fun q => ks'.getD q.2 kd := fm ks' es.size hl.symm hlt kd
      refine ⟨live.map fun q => ks'.getD q.2 kd, ?_, by rw [List.length_map, hle, hsz], fun i k e' h1 h2 => ?_⟩
      · refine List.Perm.trans ?_ pm
        rw [← hks]
        refine (hp.filterMap _).trans ?_
        rw [← hl, List.filterMap_getElem?_range_length]
      · rw [List.getElem?_map] at h1
        rw [← Array.getElem?_toList, hes, List.getElem?_map] at h2
        obtain ⟨q, hq, rfl⟩ := Option.map_eq_some_iff.mp h1
        rw [hq] at h2
        cases h2
        have hq2 := hlt q (List.mem_of_getElem? hq)
        refine hel q.2 _ _ ?_ ?_
        · rw [List.getElem?_eq_getElem (by rw [hl]; exact hq2), List.getD_eq_getElem?_getD, List.getElem?_eq_getElem (by rw [hl]; exact hq2)]
          rfl
        · show es[q.2]? = some (es.toList.getD q.2 (0, .none))
          rw [List.getD_eq_getElem?_getD, Array.getElem?_toList, Array.getElem?_eq_getElem hq2]
          rfl
theorem cap_cyc {mask n : Nat} (h : Cap mask n) : Cyc (mask + 1) ∧ mask % 2 = 1 ∧ n + 1 ≤ mask := by
  rcases h with ⟨rfl, h⟩ | ⟨rfl, h⟩ | ⟨rfl, h⟩
  · exact ⟨cyc8, rfl, by omega⟩
  · exact ⟨cyc32, rfl, by omega⟩
  · exact ⟨cyc128, rfl, by omega⟩
theorem put_at {h : Heap} {a : Addr} {o : Obj} {es : Array (Int × Value)} {ep : Nat} {t : SetTable} (ho : h.get? a = some o) (hd : o.data = .set es ep t) (es' : Array (Int × Value)) (t' : SetTable) :
    (h.update a (Obj.putSet es' t')).get? a = some { o with data := .set es' (ep + 1) t' } := by
  have := Heap.get?_update_self (Obj.putSet es' t') ho (by rw [putSet_of es' t' hd]; rfl)
  rw [putSet_of es' t' hd] at this
  exact this
theorem wp_add {a : Addr} {ks : List K} {k : K} {u : Value} {Q : Bool → Shared → Prop} (S : SetAt knd s.heap a ks) (hr : knd.room A) (hk : knd.is s.heap k u) (inj : ∀ k' ∈ ks, knd.hash k' = knd.hash k → k' = k) (hcap : ks.length < 76)
    (h : ∀ h' b, Heap.SameBut a s.heap h' → SetAt knd h' a (if k ∈ ks then ks else k :: ks) → Q b { s with heap := h' }) :
    wpAny (model prog w) A (setAddHashed a u (knd.hash k)) Q E s := by
  obtain ⟨o, es, ep, t, ho, hex, hd, T, hc, hpl0, hled0⟩ := S
  obtain ⟨hcyc, hodd, hroom⟩ := cap_cyc hc
  have hsz := T.size
  have hf := T.fits (by omega)
  unfold setAddHashed setAddHashedIn
  refine wpAny_holding (wpAny_bind (wpAny_setState_of ho hd hf ?_))
  dsimp only
  have hbs : byScan u es = false := by unfold byScan; rw [knd.noscan hk]; rfl
  rw [hbs]
  simp only [Bool.false_eq_true, if_false]
  refine wpAny_bind (wp_search ho hd T hcyc hodd (by omega) hr hk inj (fun hin => ?_) fun hn m hm hj hb => ?_)
  · refine wpAny_pure ?_
    have e : s = { s with heap := s.heap } := by cases s; rfl
    rw [e]
    refine h s.heap _ (Heap.SameBut.refl a s.heap) ?_
    rw [if_pos hin]
    exact ⟨o, es, ep, t, ho, hex, hd, T, hc, hpl0, hled0⟩
  dsimp only
  refine wpAny_bind (wpAny_setState_of ho hd hf ?_)
  dsimp only
  have T2 := T.ins hk hn hm hj hb
  have hsz2 := T2.size
  have key : ∀ (t1 : SetTable) (p1 : Nat), t.put (pathM t.mask (knd.hash k) m).j = (t1, p1) → wpAny (model prog w) A (storeSet a (SetTable.insertAt es p1 (knd.hash k, u)) t1 >>= fun _ => if (!false && t1.tooFull) = true then setRelay a (SetTable.grown (es.size + 1)) >>= fun _ => pure true else pure true) Q E s := by
    intro t1 p1 ep1
    have et : t1 = (t.put (pathM t.mask (knd.hash k) m).j).1 := by rw [ep1]
    have epp : p1 = SetTable.below t.place (pathM t.mask (knd.hash k) m).j := by
      have : (t.put (pathM t.mask (knd.hash k) m).j).2 = p1 := by rw [ep1]
      rw [← this]; rfl
    rw [← et, ← epp] at T2
    rw [← epp] at hsz2
    have hmask : t1.mask = t.mask := by rw [et]; rfl
    have hpl1 : t1.plain = true := by rw [et]; exact hpl0
    have hled1 : t1.led = !w.params.followText "set-order" := by rw [et]; exact hled0
    have hes1 : (SetTable.insertAt es p1 (knd.hash k, u)).size = es.size + 1 := by rw [hsz2, List.length_cons, hsz]
    have hle : es.size + 1 ≤ 77 := by omega
    have hline : ∀ n, n ≤ 77 → n ≤ sizeLine := fun n hn => Nat.le_trans hn (by rw [sizeLine_eq]; decide)
    refine wpAny_bind (wpAny_storeSet_of ho hd ?_ (hline _ (by rw [hes1]; exact hle)))
    have ho1 := put_at ho hd (SetTable.insertAt es p1 (knd.hash k, u)) t1
    have hsb1 := Heap.SameBut.update s.heap a (Obj.putSet (SetTable.insertAt es p1 (knd.hash k, u)) t1)
    have T3 := T2.keeps ho hd hsb1
    have hfill : t1.fill = es.size + 1 := by
      obtain ⟨js, _, e1, e2⟩ := T2.ex
      unfold SetTable.fill
      rw [T2.nod, ← Array.length_toList, e1, e2, hes1]
      rfl
    by_cases hfull : t1.tooFull = true
    · rw [hfull]
      simp only [Bool.not_false, Bool.and_self, if_true]
      unfold SetTable.tooFull at hfull
      rw [hfill, hmask, decide_eq_true_eq] at hfull
      have hcase : (t.mask = 7 ∧ es.size = 4) ∨ (t.mask = 31 ∧ es.size = 18) := by
        rcases hc with ⟨e1, e2⟩ | ⟨e1, e2⟩ | ⟨e1, e2⟩ <;> rw [e1] at hfull <;> omega
      obtain ⟨nm, hnm, hcap2, hcyc2, hl2⟩ : ∃ nm, SetTable.sizeAbove (SetTable.grown (es.size + 1)) - 1 = nm ∧ Cap nm (es.size + 1) ∧ Cyc (nm + 1) ∧ SetTable.sizeAbove (SetTable.grown (es.size + 1)) ≤ 128 := by
        rcases hcase with ⟨_, e⟩ | ⟨_, e⟩
        · rw [e]; exact ⟨31, by decide, .inr (.inl ⟨rfl, by omega⟩), cyc32, by decide⟩
        · rw [e]; exact ⟨127, by decide, .inr (.inr ⟨rfl, by omega⟩), cyc128, by decide⟩
      refine wpAny_bind ?_
      unfold setRelay
      refine wpAny_bind (wpAny_setState_of ho1 rfl (T3.fits (by rw [hes1, hmask]; omega)) ?_)
      dsimp only
      rw [if_neg (Nat.not_lt.mpr (Nat.le_trans hl2 (by rw [sizeLine_eq]; decide)))]
      obtain ⟨live, hlaid, hperm, hg⟩ := laid_ok (mask := SetTable.sizeAbove (SetTable.grown (es.size + 1)) - 1) (by rw [hnm]; exact hcyc2) t1.finger (t1.movedTo (SetTable.sizeAbove (SetTable.grown (es.size + 1)) - 1)) t1.led t1.plain (hashes := (SetTable.insertAt es p1 (knd.hash k, u)).map (·.1)) (by
        rw [Array.size_map, hes1, hnm]
        have := (cap_cyc hcap2).2.2
        omega)
      have hrel : t1.relaid ((SetTable.insertAt es p1 (knd.hash k, u)).map (·.1)) (SetTable.grown (es.size + 1)) = _ := hlaid
      rw [hrel]
      rw [Array.size_map] at hperm
      obtain ⟨hsz3, T4⟩ := T3.relay (wanted := SetTable.grown (es.size + 1)) rfl hperm hg
      refine wpAny_bind ?_
      refine wpAny_of_eq (a := ((live.map (·.2)).toArray.filterMap ((SetTable.insertAt es p1 (knd.hash k, u))[·]?), _)) (by
        show (if (_ != _) = true then _ else _) = _
        rw [if_neg (by rw [hsz3]; simp)]) ?_
      dsimp only
      refine wpAny_storeSet_of ho1 rfl ?_ (hline _ (by rw [hsz3, hes1]; exact hle))
      have ho2 := put_at ho1 rfl ((live.map (·.2)).toArray.filterMap ((SetTable.insertAt es p1 (knd.hash k, u))[·]?)) { mask := SetTable.sizeAbove (SetTable.grown (es.size + 1)) - 1, place := (live.map (·.1)).toArray, dummies := #[], finger := t1.finger, led := t1.led, moves := t1.movedTo (SetTable.sizeAbove (SetTable.grown (es.size + 1)) - 1), plain := t1.plain }
      have hsb2 := Heap.SameBut.update (s.heap.update a (Obj.putSet (SetTable.insertAt es p1 (knd.hash k, u)) t1)) a (Obj.putSet ((live.map (·.2)).toArray.filterMap ((SetTable.insertAt es p1 (knd.hash k, u))[·]?)) { mask := SetTable.sizeAbove (SetTable.grown (es.size + 1)) - 1, place := (live.map (·.1)).toArray, dummies := #[], finger := t1.finger, led := t1.led, moves := t1.movedTo (SetTable.sizeAbove (SetTable.grown (es.size + 1)) - 1), plain := t1.plain })
      refine wpAny_pure (h _ _ (hsb1.trans hsb2) ?_)
      rw [if_neg hn]
      refine ⟨_, _, _, _, ho2, hex, rfl, T4.keeps ho1 rfl hsb2, ?_, hpl1, hled1⟩
      rw [hsz3, hes1]
      show Cap (SetTable.sizeAbove (SetTable.grown (es.size + 1)) - 1) _
      rw [hnm]
      exact hcap2
    · rw [Bool.eq_false_iff.mpr hfull]
      simp only [Bool.not_false, Bool.and_false, Bool.false_eq_true, if_false]
      refine wpAny_pure (h _ _ hsb1 ?_)
      rw [if_neg hn]
      refine ⟨_, _, _, _, ho1, hex, rfl, T3, ?_, hpl1, hled1⟩
      rw [hes1, hmask]
      have hfull' : ¬ (t1.fill * 5 ≥ t1.mask * 3) := fun z => hfull (by unfold SetTable.tooFull; exact decide_eq_true z)
      rw [hfill, hmask] at hfull'
      rcases hc with ⟨e1, e2⟩ | ⟨e1, e2⟩ | ⟨e1, e2⟩ <;> rw [e1] at hfull' ⊢
      · exact .inl ⟨rfl, by omega⟩
      · exact .inr (.inl ⟨rfl, by omega⟩)
      · exact .inr (.inr ⟨rfl, by omega⟩)
  generalize hput : t.put (pathM t.mask (knd.hash k) m).j = pr
  obtain ⟨t1, p1⟩ := pr
  dsimp only
  cases hpl : t1.plain
  · simp only [Bool.false_eq_true, if_false]
    refine wpAny_bind (wpAny_pure ?_)
    simp only [if_true]
    exact key t1 p1 hput
  · simp only [if_true]
    refine wpAny_bind (knd.byValue hk ?_)
    simp only [if_true]
    exact key t1 p1 hput
end
end TF
set_option maxHeartbeats 3200000
namespace TF
open PySem PyProof.Rows
section
variable {K : Type} [DecidableEq K]
def ddup (acc : List K) : List K → List K
  | [] => acc
  | k :: r => ddup (if k ∈ acc then acc else k :: acc) r
theorem ddup_app : ∀ (l acc m : List K), ddup acc (l ++ m) = ddup (ddup acc l) m
  | [], _, _ => rfl
  | k :: l, acc, m => by rw [List.cons_append, ddup, ddup]; exact ddup_app l _ m
theorem ddup_mem : ∀ (l acc : List K) (x : K), x ∈ ddup acc l ↔ x ∈ acc ∨ x ∈ l
  | [], acc, x => by simp [ddup]
  | k :: l, acc, x => by
    rw [ddup, ddup_mem l]
    by_cases h : k ∈ acc
    · rw [if_pos h, List.mem_cons]
      constructor
      · rintro (h1 | h1)
        · exact .inl h1
        · exact .inr (.inr h1)
      · rintro (h1 | rfl | h1)
        · exact .inl h1
        · exact .inl h
        · exact .inr h1
    · rw [if_neg h, List.mem_cons, List.mem_cons]
      constructor
      · rintro ((h1 | h1) | h1)
        · exact .inr (.inl h1)
        · exact .inl h1
        · exact .inr (.inr h1)
      · rintro (h1 | h1 | h1)
        · exact .inl (.inr h1)
        · exact .inl (.inl h1)
        · exact .inr h1
theorem ddup_nd : ∀ (l acc : List K), acc.Nodup → (ddup acc l).Nodup
  | [], _, h => h
  | k :: l, acc, h => by
    rw [ddup]
    by_cases c : k ∈ acc
    · rw [if_pos c]; exact ddup_nd l acc h
    · rw [if_neg c]; exact ddup_nd l _ (List.nodup_cons.mpr ⟨c, h⟩)
theorem nodup_le' {l m : List K} (nd : l.Nodup) (hm : ∀ x ∈ l, x ∈ m) : l.length ≤ m.length := by
  induction l generalizing m with
  | nil => exact Nat.zero_le _
  | cons a l ih =>
    obtain ⟨n1, n2⟩ := List.nodup_cons.mp nd
    have ha := hm a (List.mem_cons_self ..)
    have := ih (m := m.erase a) n2 fun x hx => (List.mem_erase_of_ne (fun (e : x = a) => n1 (e ▸ hx))).mpr (hm x (List.mem_cons_of_mem _ hx))
    rw [List.length_erase_of_mem ha] at this
    have h0 : 0 < m.length := List.length_pos_of_mem ha
    simp only [List.length_cons]
    omega
end
section
variable {prog : Program} {w : World} {K : Type} [DecidableEq K] {knd : EK prog w K} {A : Around}
theorem SetAt.kept {h h' : Heap} {S : Addr} {ks : List K} (x : SetAt knd h S ks) (hS : ∀ o, h.get? S = some o → h'.get? S = some o) (hk : ∀ b o, h.get? b = some o → (∀ es ep t, o.data ≠ .set es ep t) → (∀ vs, o.data ≠ .fields vs) → h'.get? b = some o) : SetAt knd h' S ks := by
  obtain ⟨o, es, ep, t, ho, hex, hd, T, hc⟩ := x
  exact ⟨o, es, ep, t, hS o ho, hex, hd, T.kept hk, hc⟩
theorem fill_loop {R : Result → Shared → Prop} {I l S : Addr} {items : Array Value} {ks U : List K} (hh : A.in1.handled = none) (hIl : l ≠ I) (hSI : S ≠ I) (hSl : S ≠ l) (hr : knd.room A.in1) (hlen : ks.length = items.size)
    (inj : ∀ k ∈ ks, ∀ k' ∈ ks, knd.hash k' = knd.hash k → k' = k) (hU : ∀ k ∈ ks, k ∈ U) (hUl : U.length ≤ 75) :
    ∀ (n i : Nat) (s : Shared), items.size - i = n → i ≤ items.size → (s.heap.IsListIter I l i ∧ s.heap.IsList l items) → (∀ (j : Nat) k v, ks[j]? = some k → items[j]? = some v → knd.is s.heap k v) → SetAt knd s.heap S (ddup [] (ks.take i)) →
      (∀ h' tk, (∀ b o, b ≠ S → b ≠ I → s.heap.get? b = some o → h'.get? b = some o) → SetAt knd h' S (ddup [] ks) → R (.ok (.ret .none)) { s with heap := h', toks := tk }) →
      codeAny (model prog w) A (.builtin "set.update.loop" ⟨[.ref S, .ref I], []⟩) R s := by
  have W := Walks.list (prog := prog) (w := w) hh I l hIl items
  intro n
  induction n with
  | zero =>
    intro i s hn hi st his hS hR
    obtain rfl : i = items.size := by omega
    refine codeAny_builtin F.entry_set_update_loop ?_
    rw [Around.under_plainId F.plain_set_update_loop _]
    refine wpAny_bind (m := pyNext (.ref I)) (W.done s _ _ st fun h' tk hm => ?_)
    refine wpAny_pure (hR h' tk (fun b o _ hb e => hm b o (by simp [hb]) e) ?_)
    rw [← hlen, List.take_length] at hS
    refine hS.kept (fun o e => hm S o (by simp [hSI]) e) fun b o e h1 h2 => hm b o (fun z => ?_) e
    obtain ⟨oi, z1, z2, z3⟩ := st.1
    rw [List.mem_singleton.mp z, z1] at e
    cases e
    exact h2 _ z3
  | succ n ih =>
    intro i s hn hi st his hS hR
    have hlt : i < items.size := by omega
    refine codeAny_builtin F.entry_set_update_loop ?_
    rw [Around.under_plainId F.plain_set_update_loop _]
    refine wpAny_bind (m := pyNext (.ref I)) (W.item i s _ _ hlt st fun v h1 tk1 hv st1 hm1 => ?_)
    have kp1 : ∀ b o, s.heap.get? b = some o → (∀ es ep t, o.data ≠ .set es ep t) → (∀ vs, o.data ≠ .fields vs) → h1.get? b = some o := fun b o e _ h2 => hm1 b o (fun z => by
      obtain ⟨oi, z1, z2, z3⟩ := st.1
      rw [List.mem_singleton.mp z, z1] at e
      cases e
      exact h2 _ z3) e
    have hik : i < ks.length := by omega
    have hki : ks[i]? = some ks[i] := List.getElem?_eq_getElem hik
    have hS1 : SetAt knd h1 S (ddup [] (ks.take i)) := hS.kept (fun o e => hm1 S o (by simp [hSI]) e) kp1
    have hv1 : knd.is h1 ks[i] v := knd.keeps (his i _ v hki hv) kp1
    have hmi : ks[i] ∈ ks := List.getElem_mem hik
    have hsub : ∀ k ∈ ddup [] (ks.take i), k ∈ ks := fun k hk => by
      rcases (ddup_mem _ _ _).mp hk with z | z
      · cases z
      · exact List.mem_of_mem_take z
    have et : ddup [] (ks.take (i + 1)) = if ks[i] ∈ ddup [] (ks.take i) then ddup [] (ks.take i) else ks[i] :: ddup [] (ks.take i) := by
      rw [List.take_add_one, hki, ddup_app]
      rfl
    refine wpAny_bind (m := holding [v] (setAdd S v)) (wpAny_holding ?_)
    unfold setAdd
    refine wpAny_holding (wpAny_bind (knd.pyHash (s := { s with heap := h1, toks := tk1 }) hr hv1 fun tk2 => ?_))
    refine wp_add (s := { s with heap := h1, toks := tk2 }) hS1 hr hv1 (fun k' hk' e => inj _ hmi _ (hsub k' hk') e) ?_ fun h2 bb hsb hS2 => ?_
    · have := nodup_le' (ddup_nd (ks.take i) [] List.nodup_nil) (m := U) fun x hx => hU x (hsub x hx)
      omega
    · rw [← et] at hS2
      have kp2 : ∀ b o, h1.get? b = some o → b ≠ S → h2.get? b = some o := fun b o e hb => hsb.extBut b o hb e
      have kp3 : ∀ b o, h1.get? b = some o → (∀ es ep t, o.data ≠ .set es ep t) → (∀ vs, o.data ≠ .fields vs) → h2.get? b = some o := fun b o e h3 _ => kp2 b o e fun z => by
        obtain ⟨o', es, ep, t, ho', _, hd', _⟩ := hS1
        rw [z, ho'] at e
        cases e
        exact h3 _ _ _ hd'
      refine wpAny_pure ⟨plainId_quiet F.plain_set_update_loop _, ih (i + 1) _ (by omega) hlt ?_ (fun j k u hj hu => knd.keeps (knd.keeps (his j k u hj hu) kp1) kp3) hS2 fun h' tk hk hS' => ?_⟩
      · exact ⟨st1.1.at fun o e => kp2 I o e (Ne.symm hSI), st1.2.at fun o e => kp2 l o e (Ne.symm hSl)⟩
      · exact hR h' tk (fun b o hb1 hb2 e => hk b o hb1 hb2 (kp2 b o (hm1 b o (by simp [hb2]) e) hb1)) hS'
end
end TF
namespace TF
open PySem PyProof.Rows
abbrev newO (led : Bool) : Obj := { cls := .type "set", dict := none, data := .set #[] 0 (.fresh 0 0 led) }
section
variable {prog : Program} {w : World} {K : Type} [DecidableEq K] {knd : EK prog w K} {A : Around} {E : Value → Shared → Prop} {s : Shared}
abbrev ledW (w : World) : Bool := !w.params.followText "set-order"
theorem code_newK (a : Value) {Q₁ : Value → Shared → Prop} (h : Q₁ (.ref s.heap.objs.size) { s with heap := s.heap.push (newO (ledW w)) }) :
    codeAny (model prog w) A (.call (.builtin "set.__new__") ⟨[.type "set", a], []⟩) (wants Q₁ E) s := by
  refine codeAny_of_tree ?_
  show wpAny _ A.in1 (checkBuiltinCall "set.__new__" _ >>= fun _ => again (.builtin "set.__new__" _)) _ _ s
  refine wpAny_bind (wpAny_of_eq (F.newCall_set_1 a) (wpAny_pure ⟨plainId_quiet F.plain_set_new _, codeAny_builtin F.entry_set_new ?_⟩))
  rw [Around.under_plainId F.plain_set_new _]
  unfold Builtin.«set.__new__» Builtin.Frozenset.newClass
  have sb := sub_set_self
  obtain ⟨hp, g, d, tk, os⟩ := s
  dsimp only
  wp_walk
  refine wpAny_askSetting (wpAny_pure ?_)
  dsimp only
  simp only [newObj]
  exact wpAny_bind (wpAny_alloc (wpAny_pure (wpAny_pure h)))
theorem SetAt.new (h : Heap) (led : Bool) (hled : led = ledW w) {h' : Heap} {a : Addr} (e : h'.get? a = some (newO led)) : SetAt knd h' a [] := by
  refine ⟨_, #[], 0, _, e, ⟨rfl, rfl, rfl⟩, rfl, ⟨⟨[], ⟨.nil, by simp, by simp⟩, rfl, rfl⟩, rfl, ⟨[], .refl _, rfl, fun i k e h => by simp at h⟩, .nil⟩, .inl ⟨rfl, by simp⟩, rfl, hled⟩
theorem call_setK {l : Addr} {items : Array Value} {ks U : List K} {Q : Value → Shared → Prop} (hh : A.handled = none) (hl : s.heap.IsList l items) (hr : knd.room A.in1.in1.in1) (hlen : ks.length = items.size)
    (his : ∀ (j : Nat) k v, ks[j]? = some k → items[j]? = some v → knd.is s.heap k v) (inj : ∀ k ∈ ks, ∀ k' ∈ ks, knd.hash k' = knd.hash k → k' = k) (hU : ∀ k ∈ ks, k ∈ U) (hUl : U.length ≤ 75)
    (h : ∀ h' tk, SetAt knd h' s.heap.objs.size (ddup [] ks) → (∀ b o, b < s.heap.objs.size → s.heap.get? b = some o → h'.get? b = some o) → Q (.ref s.heap.objs.size) { s with heap := h', toks := tk }) :
    wpAny (model prog w) A (call (.type "set") [.ref l]) Q E s := by
  obtain ⟨c0, rest0, mro0⟩ := F.called_set.mro
  have made0 := F.called_set.made
  have sub0 := F.called_set.sub
  refine wpAny_call (codeAny_of_tree ?_)
  show wpAny _ _ (callAny (.type "set") _) _ _ _
  refine wpAny_pure ⟨Code.quiet_builtin _ (by decide +kernel), codeAny_builtin F.entry_type_call ?_⟩
  rw [Around.under_plain (weight_type_call_type "set" [.ref l] []) rfl]
  have nt0 := F.called_set.notType
  have cc0 := F.called_set.canCreate
  have tc0 := F.typeCall_set_1 (.ref l)
  repeat (any_goals (first | assumption | wp_step))
  refine codeAny_mono (code_newK (.ref l) (E := E) (Q₁ := fun v s₁ => ∃ led, led = ledW w ∧ v = .ref s.heap.objs.size ∧ s₁ = { s with heap := s.heap.push (newO led) }) ⟨_, rfl, rfl, rfl⟩) fun res s₁ hres => ?_
  cases res with
  | error e => exact hres
  | ok fl =>
    cases fl with
    | ret v =>
      obtain ⟨led, hled, rfl, rfl⟩ := hres
      have hS : (s.heap.push (newO led)).get? s.heap.objs.size = some (newO led) := Heap.get?_push_size _ rfl
      have hT : Shared.TypeIs { s with heap := s.heap.push (newO led) } (.ref s.heap.objs.size) "set" := ⟨_, hS, rfl⟩
      have il0 := F.called_set.init.lookup
      have ib0 := F.called_set.init.bind (.ref s.heap.objs.size)
      repeat (any_goals (first | assumption | wp_step))
      refine codeAny_mono (codeAny_call_builtin (R := wants (fun r s₂ => r = .none ∧ ∃ h' tk, s₂ = { s with heap := h', toks := tk } ∧ SetAt knd h' s.heap.objs.size (ddup [] ks) ∧ (∀ b o, b < s.heap.objs.size → s.heap.get? b = some o → h'.get? b = some o)) E)
        F.called_set.init.plain F.entry_set_init (check_set_init_1 hT ?_)) fun res2 s₂ hres2 => ?_
      · obtain ⟨ol, hol, cl, nl, dl⟩ := hl
        obtain ⟨c1, d1, da1, sl1⟩ := ol
        simp only at cl dl
        subst cl; subst dl
        have hol1 : (s.heap.push (newO led)).get? l = some { cls := .type "list", dict := d1, data := .seq items nl, slots := sl1 } := Heap.get?_push_of_some _ hol
        have q1 := F.sub_list_set
        have q2 := F.sub_list_frozenset
        have q3 : (Value.type "list" == Value.type "dict") = false := by decide
        have isl : (s.heap.push (newO led)).IsList l items := ⟨_, hol1, rfl, nl, rfl⟩
        have lS : l < s.heap.objs.size := Heap.lt_size hol
        have hI : (s.heap.push (newO led)).objs.size = s.heap.objs.size + 1 := Heap.size_push ..
        unfold Builtin.«set.__init__» noKeywords Builtin.Frozenset.updateFrom
        generalize hPI : pyIter = PI
        wp_walk
        subst hPI
        refine wpAny_pyIter_list isl (wpAny_bind (wpAny_runValue ?_))
        refine fill_loop (A := A.in1.in1) (U := U) (by simp [hh]) (Nat.ne_of_lt (by rw [hI]; exact Nat.lt_succ_of_lt lS)) (Nat.ne_of_lt (by rw [hI]; exact Nat.lt_succ_self _)) (Nat.ne_of_gt lS) hr hlen inj hU hUl (items.size - 0) 0 _ rfl (Nat.zero_le _)
          ⟨⟨_, Heap.get?_push_size _ rfl, rfl, rfl⟩, isl.push _⟩ (fun j k u hj hu => knd.keeps (his j k u hj hu) fun b o e _ _ => Heap.get?_push_of_some _ (Heap.get?_push_of_some _ e)) (SetAt.new s.heap led hled (Heap.get?_push_of_some _ hS)) ?_
        intro h' tk hk hSet
        refine wpAny_pure (wpAny_pure ⟨rfl, h', tk, rfl, hSet, fun b o hb e => ?_⟩)
        exact hk b o (Nat.ne_of_lt hb) (Nat.ne_of_lt (by rw [hI]; exact Nat.lt_succ_of_lt hb)) (Heap.get?_push_of_some _ (Heap.get?_push_of_some _ e))
      · cases res2 with
        | error e => exact hres2
        | ok fl2 =>
          cases fl2 with
          | ret r =>
            obtain ⟨rfl, h', tk, rfl, hSet, hk⟩ := hres2
            repeat (any_goals (first | assumption | wp_step))
            exact h _ _ hSet hk
          | _ => exact hres2.elim
    | _ => exact hres.elim
end
end TF
namespace TF
open PySem PyProof.Rows
def slotOk (w : World) (t : SetTable) (slot i : Nat) : Prop := w.params.followText "set-order" = true ∨ SetTable.below t.place slot = i
section
variable {prog : Program} {w : World} {A : Around} {E : Value → Shared → Prop} {s : Shared} {a : Addr} {o : Obj} {es : Array (Int × Value)} {ep : Nat} {t : SetTable}
structure SIt (w : World) (h : Heap) (I a : Addr) (o : Obj) (es : Array (Int × Value)) (ep : Nat) (t : SetTable) (i : Nat) : Prop where
  it : ∃ oi slot, h.get? I = some oi ∧ oi.cls = .type "set_iterator" ∧ oi.data = .fields #[.int (slot : Nat) 0, .int i 0, .ref a, .int es.size 0, .int ep 0] ∧ slotOk w t slot i
  st : h.get? a = some o
end
end TF
namespace TF
open PySem PyProof.Rows
section
variable {prog : Program} {w : World} {K : Type} [DecidableEq K] {knd : EK prog w K} {A : Around} {E : Value → Shared → Prop} {s : Shared}
end
end TF
namespace TF
open PySem PySem.Spec L2
open PyProof.Rows hiding St RelV
section
variable {prog : Program} {w : World} {A : Around} {E : Value → Shared → Prop} {s : Shared}
def SqAt (h : Heap) (p : Sq) (u : Value) : Prop := ∃ a, u = .ref a ∧ KeyAt h (sq p) a
theorem SqAt.items {h : Heap} {p : Sq} {u : Value} (x : SqAt h p u) : ∃ a o n t1 t2, u = .ref a ∧ h.get? a = some o ∧ o.cls = .type "tuple" ∧ o.data = .seq #[.int p.1 t1, .int p.2 t2] n := by
  obtain ⟨a, rfl, hk, r⟩ := x
  unfold sq at r
  rw [AtH] at r
  obtain ⟨b, us, e, ht, hl⟩ := r
  cases e
  rw [AtL] at hl
  obtain ⟨u1, r1, rfl, h1, hl⟩ := hl
  rw [AtL] at hl
  obtain ⟨u2, r2, rfl, h2, hl⟩ := hl
  rw [AtL] at hl
  subst hl
  rw [AtH] at h1 h2
  obtain ⟨t1, rfl⟩ := h1
  obtain ⟨t2, rfl⟩ := h2
  obtain ⟨o, ho, hc, n, hd⟩ := ht
  exact ⟨a, o, n, t1, t2, rfl, ho, hc, hd⟩
theorem SqAt.mk {h : Heap} {p : Sq} {a : Addr} {o : Obj} {n : Nat} {t1 t2 : Tok} (ho : h.get? a = some o) (hc : o.cls = .type "tuple") (hd : o.data = .seq #[.int p.1 t1, .int p.2 t2] n) : SqAt h p (.ref a) := by
  refine ⟨a, rfl, key_sq p, ?_⟩
  unfold sq
  rw [AtH]
  refine ⟨a, [.int p.1 t1, .int p.2 t2], rfl, ⟨o, ho, hc, n, hd⟩, ?_⟩
  simp only [AtL, AtH]
  exact ⟨_, _, rfl, ⟨_, rfl⟩, _, _, rfl, ⟨_, rfl⟩, rfl⟩
theorem SqAt.key {h : Heap} {p : Sq} {u : Value} (x : SqAt h p u) : ∃ a, u = .ref a ∧ KeyAt h (sq p) a := x
theorem quiet_sq {p : Sq} {u : Value} {Q : Bool → Shared → Prop} (x : SqAt s.heap p u) (h : Q true s) : wpAny (model prog w) A (eqIsQuiet 8 u) Q E s := by
  obtain ⟨a, rfl, hk⟩ := x
  exact (datKind prog w).quiet hk h
theorem ofClass_sq {p : Sq} {u : Value} {Q : Bool → Shared → Prop} (x : SqAt s.heap p u) (h : Q false s) : wpAny (model prog w) A (ofAClassStatement 8 u) Q E s := by
  obtain ⟨a, o, n, t1, t2, rfl, ho, hc, hd⟩ := x.items
  have hT : s.TypeIs (.ref a) "tuple" := ⟨o, ho, hc⟩
  unfold ofAClassStatement
  refine wpAny_bind (wpAny_typeOf hT ?_)
  dsimp only
  refine wpAny_bind (wpAny_pure ?_)
  simp only [Bool.not_true, Bool.false_eq_true, if_false]
  refine wpAny_bind (wpAny_seqItems ho hd ?_)
  dsimp only
  refine wpAny_bind ?_
  rw [← Array.forIn_toList]
  simp only [List.forIn_cons, List.forIn_nil, ofAClassStatement, pure_bind, Bool.false_eq_true, if_false]
  exact wpAny_pure (wpAny_pure h)
theorem byValue_sq {p : Sq} {u : Value} {Q : Bool → Shared → Prop} (x : SqAt s.heap p u) (h : Q true s) : wpAny (model prog w) A (hashByValue 8 u) Q E s := by
  obtain ⟨a, o, n, t1, t2, rfl, ho, hc, hd⟩ := x.items
  have hT : s.TypeIs (.ref a) "tuple" := ⟨o, ho, hc⟩
  unfold hashByValue
  refine wpAny_bind (wpAny_specialOf hT F.slot_tuple_hash.lookup ?_)
  dsimp only
  refine wpAny_bind (wpAny_seqItems ho hd ?_)
  refine wpAny_bind ?_
  show wpAny _ _ (forIn #[_, _] _ _) _ _ _
  rw [← Array.forIn_toList]
  simp only [List.forIn_cons, List.forIn_nil, hashByValue, pure_bind, Bool.not_true, Bool.false_eq_true, if_false]
  exact wpAny_pure (wpAny_pure h)
theorem unseen_sq {p : Sq} {u : Value} {vs : List Value} {Q : Bool → Shared → Prop} (x : SqAt s.heap p u) (hv : ∀ v ∈ vs, ∃ y, SqAt s.heap y v) (h : Q false s) : wpAny (model prog w) A (searchCouldBeSeen u vs) Q E s := by
  unfold searchCouldBeSeen
  refine wpAny_bind ?_
  refine wpAny_forIn_list _ (fun rest r s' => r.1 = none ∧ s' = s ∧ ∀ v ∈ rest, ∃ y, SqAt s.heap y v) _ ?_ ?_ _ _ ⟨rfl, rfl, hv⟩
  · rintro v rest r s' ⟨hr, rfl, hall⟩
    obtain ⟨y, hy⟩ := hall v List.mem_cons_self
    have hall' : ∀ v ∈ rest, ∃ y, SqAt s'.heap y v := fun v hv => hall v (List.mem_cons_of_mem _ hv)
    obtain ⟨a', eu, _⟩ := x.key
    obtain ⟨b', ev, _⟩ := hy.key
    subst eu
    subst ev
    dsimp only
    split
    · exact wpAny_pure (show _ ∧ _ from ⟨rfl, rfl, hall'⟩)
    · refine wpAny_bind (quiet_sq x ?_)
      simp only [Bool.not_true, Bool.false_eq_true, if_false]
      refine wpAny_bind (quiet_sq hy ?_)
      simp only [Bool.not_true, Bool.false_eq_true, if_false]
      refine wpAny_bind (ofClass_sq x ?_)
      simp only [Bool.false_eq_true, if_false]
      refine wpAny_bind (ofClass_sq hy ?_)
      simp only [Bool.false_eq_true, if_false]
      exact wpAny_pure (show _ ∧ _ from ⟨rfl, rfl, hall'⟩)
  · rintro ⟨r1, r2⟩ s' ⟨hr, rfl, _⟩
    simp only at hr
    subst hr
    exact wpAny_pure h
def sqEK (prog : Program) (w : World) (P : Sq → Value → Prop) : EK prog w Sq where
  is := fun h p u => SqAt h p u ∧ P p u
  hash := fun p => hashD (sq p)
  room := fun A => A.units + 6 < cLine
  noscan := fun x => by obtain ⟨⟨a, rfl, _⟩, _⟩ := x; rfl
  eqBool := @fun A E s p q u v Q hu hx hy h => by
    obtain ⟨⟨a, rfl, hx⟩, _⟩ := hx
    obtain ⟨⟨b, rfl, hy⟩, _⟩ := hy
    refine (datKind _ _).eqBool hu hx hy ?_
    by_cases e : p = q
    · subst e; simpa using h
    · have e' : sq p ≠ sq q := fun z => e (sq_inj z)
      rw [decide_eq_false e'] ; rw [decide_eq_false e] at h; exact h
  byValue := fun x h => byValue_sq x.1 h
  unseen := fun x hv h => unseen_sq x.1 (fun v hv' => let ⟨y, hy⟩ := hv v hv'; ⟨y, hy.1⟩) h
  pyHash := fun hu hx h => by
    obtain ⟨⟨a, rfl, hx⟩, _⟩ := hx
    exact (datKind _ _).pyHash hu hx (h _)
  keeps := fun x hk => by
    obtain ⟨x, hp⟩ := x
    obtain ⟨a, o, n, t1, t2, rfl, ho, hc, hd⟩ := x.items
    exact ⟨.mk (hk a o ho (fun es ep t e => by rw [hd] at e; cases e) fun vs e => by rw [hd] at e; cases e) hc hd, hp⟩
end
def board : List Sq := (List.range 8).flatMap fun (i : Nat) => (List.range 8).map fun (j : Nat) => ((i : Int), (j : Int))
theorem board_mem {p : Sq} (h : 0 ≤ p.1 ∧ p.1 ≤ 7 ∧ 0 ≤ p.2 ∧ p.2 ≤ 7) : p ∈ board := by
  obtain ⟨a, b⟩ := p
  simp only at h
  obtain ⟨x, rfl⟩ := Int.eq_ofNat_of_zero_le h.1
  obtain ⟨y, rfl⟩ := Int.eq_ofNat_of_zero_le h.2.2.1
  unfold board
  rw [List.mem_flatMap]
  exact ⟨x, List.mem_range.mpr (by omega), List.mem_map.mpr ⟨y, List.mem_range.mpr (by omega), rfl⟩⟩
def hashS (p : Sq) : Int := reduceHash (Builtin.Tuple.tupleHashOf [hashInt p.1, hashInt p.2])
theorem hash_sq (p : Sq) : hashD (sq p) = hashS p := by
  unfold sq hashS
  simp only [hashD, hashL]
theorem board_hashS : (board.map hashS).Nodup := by decide +kernel
theorem board_hash : (board.map fun p => hashD (sq p)).Nodup := by
  rw [show (fun p => hashD (sq p)) = hashS from funext hash_sq]
  exact board_hashS
theorem board_inj : ∀ k ∈ board, ∀ k' ∈ board, hashD (sq k') = hashD (sq k) → k' = k := by
  intro k hk k' hk' e
  have h := board_hash
  unfold List.Nodup at h
  rw [List.pairwise_map] at h
  refine Classical.byContradiction fun ne => ?_
  obtain ⟨i, hi, ei⟩ := List.getElem_of_mem hk
  obtain ⟨j, hj, ej⟩ := List.getElem_of_mem hk'
  rcases Nat.lt_trichotomy i j with c | c | c
  · exact List.pairwise_iff_getElem.mp h i j hi hj c (by rw [ei, ej]; exact e.symm)
  · subst c; exact ne (by rw [← ei, ← ej])
  · exact List.pairwise_iff_getElem.mp h j i hj hi c (by rw [ei, ej]; exact e)
end TF
namespace TF
open PySem PySem.Spec L2
open PyProof.Rows hiding St RelV
theorem atL_sqs {h : Heap} : ∀ {l : List Sq} {us : List Value}, AtL h (l.map sq) us → us.length = l.length ∧ ∀ (j : Nat) p v, l[j]? = some p → us[j]? = some v → AtH h (sq p) v
  | [], us, r => by
    rw [List.map_nil, AtL] at r
    subst r
    exact ⟨rfl, fun j p v h => by simp at h⟩
  | p :: l, us, r => by
    rw [List.map_cons, AtL] at r
    obtain ⟨u, q, rfl, h1, h2⟩ := r
    obtain ⟨z1, z2⟩ := atL_sqs h2
    refine ⟨by simp [z1], fun j p' v hp hv => ?_⟩
    cases j with
    | zero => simp at hp hv; subst hp; subst hv; exact h1
    | succ j => exact z2 j p' v (by simpa using hp) (by simpa using hv)
theorem AtH.sqAt {h : Heap} {p : Sq} {u : Value} (r : AtH h (sq p) u) : SqAt h p u := by
  have r' := r
  unfold sq at r'
  rw [AtH] at r'
  obtain ⟨a, _, rfl, _, _⟩ := r'
  exact ⟨a, rfl, key_sq p, r⟩
section
variable {X : Cx} {ρ : Rho} {G : Gs} {a : Expr} {l : List Sq} {pos p1 p2 p3 : Pos}
theorem ev_set (hs : X.mg "set" = none) (hu : X.A.units + 9 < cLine) (hcalm : X.calm = true) (ha : PX X ρ G a (.lst (l.map sq))) (hb : ∀ p ∈ l, p ∈ board) {pins : List (Addr × Obj)} {s : Shared} {σ : St} {H : Hp} (I : Inv X pins σ H s) (S : Stt X H σ ρ G) {Q : Value → Shared → Prop}
    (h : ∀ H1 s1 p, Inv X pins σ H1 s1 → Ext H G H1 G → GOk X.K H1 G → SetAt (sqEK X.prog X.w fun p u => ∃ v, RelV v u ∧ Rep X.K (hid H1 G) (sq p) v) s1.heap p (ddup [] l) → Q (.ref p) s1)
    (hg : Gl X "set" := by rfl) (he : starEach [a] X.env = (false, eval a X.env) :: starEach [] X.env := by rfl) : wpAny (model X.prog X.w) X.A (eval (.Call (.Name "set" p1) [a] [] p2) X.env) Q X.xe s := by
  · refine wpAny_Call_Name_kw (ld_blt I hg hs (by decide +kernel : bootBuiltins "set" = some (.type "set")) ?_ (by decide) (by decide))
    refine PyProof.Rows.callWith_type1 (PyProof.Rows.spliced_more (thn (ha pins s σ H I S) fun u s1 ⟨x, H1, I1, r1, d, G1, e1, o1, rx, q1, q2⟩ => PyProof.Rows.spliced_none ?_) he) he rfl
    subst q1; subst q2
    rw [Rep] at rx
    obtain ⟨p, vs, rfl, h1, h2⟩ := rx
    cases r1
    obtain ⟨its, r', pl, hz⟩ := I1.list (SqL.of (hid_le _ _ h1))
    have ra : AtL s1.heap (l.map sq) its := (h2.same hid_le).at I1 (plain_sqs l 7) r'
    obtain ⟨hlen, hel⟩ := atL_sqs ra
    have hrp : ∀ (j : Nat) p u, l[j]? = some p → its[j]? = some u → ∃ v, RelV v u ∧ Rep X.K (hid H1 G1) (sq p) v := fun j p u hj hu' => by
      obtain ⟨v, hv, rv⟩ := h2.get (i := j) (d := sq p) (by rw [List.getElem?_map, hj]; rfl)
      obtain ⟨u', hu2, r2⟩ := r'.get hv
      rw [hu'] at hu2
      cases hu2
      exact ⟨v, r2, rv⟩
    refine call_setK (knd := sqEK X.prog X.w fun p u => ∃ v, RelV v u ∧ Rep X.K (hid H1 G1) (sq p) v) (ks := l) (U := board) (I1.ok.hd hcalm) pl.isList (by show X.A.units + 1 + 1 + 1 + 6 < cLine; omega) (by simp [hlen]) (fun j k v hj hv => ⟨(hel j k v hj (by simpa using hv)).sqAt, hrp j k v hj (by simpa using hv)⟩)
      (fun k hk k' hk' e => board_inj k (hb k hk) k' (hb k' hk') e) hb (by decide) fun h' tk hS hk => ?_
    have I2 : Inv X pins σ H1 { s1 with heap := h', toks := tk } := I1.call' rfl (Un.kept fun b o e => hk b o (Heap.lt_size e) e) (I1.hok.kept fun b o e => hk b o (Heap.lt_size e) e) I1.bare (ch := []) (by simp)
    exact h H1 _ _ I2 e1 o1 hS
theorem px_lenSet (hl : X.mg "len" = none) (hs : X.mg "set" = none) (hu : X.A.units + 9 < cLine) (hcalm : X.calm = true) (ha : PX X ρ G a (.lst (l.map sq))) (hb : ∀ p ∈ l, p ∈ board)
    (hg : Gl X "set" := by rfl) (hgl : Gl X "len" := by rfl) (he : starEach [a] X.env = (false, eval a X.env) :: starEach [] X.env := by rfl)
    (he2 : starEach [.Call (.Name "set" p1) [a] [] p2] X.env = (false, eval (.Call (.Name "set" p1) [a] [] p2) X.env) :: starEach [] X.env := by rfl) :
    PX X ρ G (.Call (.Name "len" p3) [.Call (.Name "set" p1) [a] [] p2] [] pos) (.int ((ddup [] l).length : Nat)) := by
  intro pins s σ H I S
  refine wpAny_Call_Name_kw (ld_blt I hgl hl (by decide +kernel : bootBuiltins "len" = some (.builtin "len")) ?_ (by decide) (by decide))
  refine PyProof.Rows.callWith_builtin1 (PyProof.Rows.spliced_more (ev_set hs hu hcalm ha hb I S (fun H1 s1 p I1 e1 o1 hS => PyProof.Rows.spliced_none ?_) hg he) he2) he2 rfl
  obtain ⟨o, es, ep, t, ho, hex, hd, T, hc, _, _⟩ := hS
  have hsz := T.size
  have hr := (cap_cyc hc).2.2
  have h77 : es.size ≤ 77 := by rcases hc with ⟨_, z⟩ | ⟨_, z⟩ | ⟨_, z⟩ <;> omega
  refine call_len_set ho hex hd (T.fits (by omega)) (by omega) ?_
  have I2 : Inv X pins σ H1 { s1 with toks := s1.toks + 1 + 1 } := I1.call' rfl (Un.kept fun b o e => e) (I1.hok.kept fun b o e => e) I1.bare (ch := []) (by simp)
  refine ⟨.int ((ddup [] l).length : Nat), H1, I2, ⟨_, by rw [hsz]⟩, _, G, e1, o1, ?_, rfl, rfl⟩
  rw [Rep]
end
end TF
namespace TF
open PySem PySem.Spec L2
open PyProof.Rows hiding St RelV
section
variable {prog : Program} {w : World} {A : Around} {E : Value → Shared → Prop} {s : Shared}
theorem nextT_item {it t : Addr} {i : Nat} {items : Array Value} {x : Value} {Q : Value → Shared → Prop} (hit : s.heap.IsTupleIter it t i) (ht : s.heap.IsTuple t items) (hx : items[i]? = some x)
    (hQ : ∀ h', h'.IsTupleIter it t (i + 1) → Heap.SameBut it s.heap h' → Q x { s with heap := h' }) : wpAny (model prog w) A (Builtin.SmallTypes.nextOf (.ref it)) Q E s := by
  obtain ⟨oi, hoi, hci, hdi⟩ := id hit
  obtain ⟨ot, hot, _, nt, hdt⟩ := ht
  unfold Builtin.SmallTypes.nextOf
  refine wpAny_bind (wpAny_callSpecial?_slot (name := Str.ofString "__next__") hit.typeIs F.slot_tuple_iterator_next (wpAny_call_entry F.slot_tuple_iterator_next hit.typeIs F.entry_tuple_iterator_next ?_ (F.args_tuple_iterator_next_1 _)))
  refine wpAny_bind (m := field (.ref it) 0) (wpAny_field hoi hdi (x := .ref t) rfl ?_)
  rw [if_neg (show ¬ ((Value.ref t == Value.none) = true) from Bool.false_ne_true)]
  refine wpAny_bind (m := field (.ref it) 1) (wpAny_field hoi hdi (x := .int i 0) rfl ?_)
  refine wpAny_bind (m := seqItems? (.ref t)) (wpAny_seqItems hot hdt ?_)
  simp only [Int.toNat_natCast, hx]
  refine wpAny_bind (wpAny_setField hoi hdi (by simp) (wpAny_pure ⟨x, rfl, wpAny_pure (hQ _ ⟨_, Heap.get?_update_self _ hoi (Obj.isFreed_of_fields (Obj.data_mapFields hdi _)), (Obj.cls_mapFields ..).trans hci, ?_⟩ (Heap.SameBut.update ..))⟩))
  rw [Obj.data_mapFields hdi]
  simp [rawInt]
theorem nextT_end {it t : Addr} {i : Nat} {items : Array Value} {Q : Value → Shared → Prop} (hh : A.handled = none) (hit : s.heap.IsTupleIter it t i) (ht : s.heap.IsTuple t items) (hx : items[i]? = none)
    (hE : ∀ h' e, Heap.ExtBut it s.heap h' → (∃ o, h'.get? e = some o ∧ o.cls = .type "StopIteration") → E (.ref e) { s with heap := h' }) : wpAny (model prog w) A (Builtin.SmallTypes.nextOf (.ref it)) Q E s := by
  obtain ⟨oi, hoi, hci, hdi⟩ := id hit
  obtain ⟨ot, hot, _, nt, hdt⟩ := ht
  unfold Builtin.SmallTypes.nextOf
  refine wpAny_bind (wpAny_callSpecial?_slot (name := Str.ofString "__next__") hit.typeIs F.slot_tuple_iterator_next (wpAny_call_entry F.slot_tuple_iterator_next hit.typeIs F.entry_tuple_iterator_next ?_ (F.args_tuple_iterator_next_1 _)))
  refine wpAny_bind (m := field (.ref it) 0) (wpAny_field hoi hdi (x := .ref t) rfl ?_)
  rw [if_neg (show ¬ ((Value.ref t == Value.none) = true) from Bool.false_ne_true)]
  refine wpAny_bind (m := field (.ref it) 1) (wpAny_field hoi hdi (x := .int i 0) rfl ?_)
  refine wpAny_bind (m := seqItems? (.ref t)) (wpAny_seqItems hot hdt ?_)
  simp only [Int.toNat_natCast, hx]
  refine wpAny_bind (wpAny_rule (wpAny_bind (wpAny_setField hoi hdi (by simp) ?_)))
  refine wpAny_bind (m := newExc (.type "StopIteration") []) ?_
  simp only [newExc, newTuple]
  refine wpAny_bind (wpAny_newObj_type ?_ (by size_fits))
  refine wpAny_bind (m := firstArgMember _ _) (wpAny_of_eq (a := Value.none) (by first | rfl | (simp only [firstArgMember]; rfl)) ?_)
  refine wpAny_newObj_type ?_ (by size_fits)
  simp only [raiseNew]
  refine wpAny_bind (wpAny_handled ?_)
  first | rw [show A.in1.handled = none from hh] | rw [hh]
  exact wpAny_bind (wpAny_pure (wpAny_throw (hE _ _ (((Heap.SameBut.update ..).extBut.push _).push _) ⟨_, Heap.get?_push_size _ rfl, rfl⟩)))
theorem draws_tuple (hh : A.handled = none) (it t : Addr) (hne : t ≠ it) (items : Array Value) : Draws prog w A it [it, t] items.size (fun i v => items[i]? = some v) (fun i h => h.IsTupleIter it t i ∧ h.IsTuple t items) where
  live := fun _ _ st => let ⟨o, ho, _⟩ := st.1; ⟨o, ho⟩
  frame := fun _ _ _ st hk => by
    obtain ⟨⟨o, ho, r⟩, ⟨o2, ho2, r2⟩⟩ := st
    exact ⟨⟨o, hk it (by simp) _ ho, r⟩, ⟨o2, hk t (by simp) _ ho2, r2⟩⟩
  item := fun i s Q E hi st hQ => nextT_item st.1 st.2 (x := items[i]) (by simp [hi]) fun h' st' hs' => hQ _ h' s.toks (by simp [hi]) ⟨st', st.2.extBut hs'.extBut hne⟩ hs'
  done := fun s Q E st hE => nextT_end hh st.1 st.2 (by simp) hE
theorem enumT_end {e it t : Addr} {i j : Nat} {items : Array Value} {old : Value} {Q : Option Value → Shared → Prop} (hh : A.in1.handled = none) (he : IsEnum s.heap e it i old) (hit : s.heap.IsTupleIter it t j) (ht : s.heap.IsTuple t items) (hx : items[j]? = none)
    (hQ : ∀ h', Heap.ExtBut it s.heap h' → Q none { s with heap := h' }) : wpAny (model prog w) A (pyNext (.ref e)) Q E s := by
  have hT : s.TypeIs (.ref e) "enumerate" := ⟨_, he, rfl⟩
  unfold pyNext
  refine wpAny_bind (wpAny_attempt (wpAny_callSpecial?_slot (name := Str.ofString "__next__") hT F.slot_enumerate_next (wpAny_call_entry F.slot_enumerate_next hT F.entry_enumerate_next ?_ (F.args_enumerate_next_1 _))))
  refine wpAny_bind (m := field (.ref e) 2) (wpAny_field he rfl (x := .ref it) rfl ?_)
  refine wpAny_bind (nextT_end hh hit ht hx fun h' x he' hx' => ?_)
  obtain ⟨o, ho, hc⟩ := hx'
  exact wpAny_bind (wpAny_isInstance (T := "StopIteration") (b := true) ⟨o, ho, hc⟩ isSubtype_stop (wpAny_pure (hQ _ he')))
abbrev enO (it : Addr) : Obj := { cls := .type "enumerate", data := .fields #[.none, .bool false, .ref it, rawInt 0, .none, .none] }
abbrev tiO (t : Addr) : Obj := { cls := .type "tuple_iterator", data := .fields #[.ref t, .int 0 0] }
open AutoSeq1 (wpAny_loadPart') in
theorem meets_enumT (l : Addr) (items : Array Value) (n : Nat) (dct : Option Addr) (sl : Array (Option Value)) :
    Meets (Builtin.«enumerate.__new__» ⟨[.type "enumerate", .ref l], []⟩) (fun _ R s => s.heap.get? l = some { cls := .type "tuple", dict := dct, data := .seq items n, slots := sl } ∧
      R (.ok (.ret (.ref (s.heap.push (tiO l)).objs.size))) { s with heap := (s.heap.push (tiO l)).push (enO s.heap.objs.size) }) :=
  .of_wp fun prog w A R s h => by
    obtain ⟨hp, g, d, tk, os⟩ := s
    obtain ⟨hl, h⟩ := h
    have sb := sub_enumerate
    have hT : Heap.IsTuple (Shared.heap ⟨hp, g, d, tk, os⟩) l items := ⟨_, hl, rfl, n, rfl⟩
    wp_walk using wpAny_loadPart' hl
    refine wpAny_stack_any fun st => wpAny_pure ?_
    split
    · rename_i c _ _ _ _ _
      cases (c == Value.type "enumerate") <;> (wp_walk using wpAny_loadPart' hl, wpAny_pyIter_tuple hT; exact ⟨_, rfl, h⟩)
    · wp_walk using wpAny_loadPart' hl, wpAny_pyIter_tuple hT
      exact ⟨_, rfl, h⟩
theorem call_enumT {l : Addr} {items : Array Value} {Q : Value → Shared → Prop} (hL : s.heap.IsTuple l items)
    (h : ∀ h', IsEnum h' (s.heap.objs.size + 1) s.heap.objs.size 0 .none → h'.IsTupleIter s.heap.objs.size l 0 → (∀ b o, s.heap.get? b = some o → h'.get? b = some o) → Q (.ref (s.heap.objs.size + 1)) { s with heap := h' }) :
    wpAny (model prog w) A (call (.type "enumerate") [.ref l]) Q E s := by
  obtain ⟨⟨c, dct, dt, sl⟩, hl, hc, n, hd⟩ := hL
  obtain rfl : c = .type "tuple" := hc
  obtain rfl : dt = .seq items n := hd
  refine callType_new F.called_enumerate (by decide) (F.typeCall_enumerate_1 _) (F.newCall_enumerate_1 _) (fun obj => F.args_object_init_2 obj _) F.entry_enumerate_new (meets_enumT l items n dct sl) ⟨hl, ?_⟩
  have hz : (s.heap.push (tiO l)).objs.size = s.heap.objs.size + 1 := Heap.size_push ..
  show _ ∧ _
  rw [hz]
  have he : IsEnum ((s.heap.push (tiO l)).push (enO s.heap.objs.size)) (s.heap.objs.size + 1) s.heap.objs.size 0 .none := by
    have := Heap.get?_push_size (s.heap.push (tiO l)) (o := enO s.heap.objs.size) rfl
    rw [hz] at this
    exact this
  exact ⟨⟨_, he, rfl⟩, h _ he ⟨_, Heap.get?_push_of_some _ (Heap.get?_push_size _ rfl), rfl, rfl⟩ fun b o x => Heap.get?_push_of_some _ (Heap.get?_push_of_some _ x)⟩
end
def Ite (K : PySem.W.Frag) (a : Addr) : It :=
  ⟨fun i H => ∃ xs x, SqT K H a xs ∧ xs[i]? = some x, fun i H x H' => ∃ y T, H T = none ∧ x = .ref T ∧ H' = upd H T (.tup [.int i, y]) ∧ ∀ xs, SqT K H a xs → xs[i]? = some y, fun i H => ∃ xs, SqT K H a xs ∧ xs.length ≤ i⟩
theorem turn_enum {P : Program} {w : World} {K : PySem.W.Frag} {elts : List Expr} {x1 : Nat} {pos : Pos} (a e it : Addr) (hei : e ≠ it) (hai : a ≠ it) (hae : a ≠ e) : Turn P w K (.Tuple elts x1 pos) (Ite K a) [e, it] e (fun i h => (∃ old, IsEnum h e it i old) ∧ h.IsTupleIter it a i) where
  mem := by simp
  obj := fun i h st b hb => by
    obtain ⟨⟨old, he⟩, o, ho, c, d⟩ := st
    rcases List.mem_cons.mp hb with rfl | hb
    · exact ⟨_, he, fun v z => by cases z⟩
    · rw [List.mem_singleton.mp hb]
      exact ⟨o, ho, fun v z => by rw [d] at z; cases z⟩
  keep := fun i h h' st k => by
    obtain ⟨⟨old, he⟩, o, ho, r⟩ := st
    exact ⟨⟨old, k e (by simp) _ he⟩, o, k it (by simp) _ ho, r⟩
  item := by
    intro X hP hw hK hc i pins s σ H E I hf st hg
    subst hP hw hK
    obtain ⟨xs, x, hq, hx⟩ := hg
    obtain ⟨its, rv, p, hz⟩ := I.tuple hq
    obtain ⟨u, hu, ru⟩ := rv.get hx
    obtain ⟨⟨old, he⟩, hit⟩ := st
    have hlt : i < its.toArray.size := by simpa using (List.getElem?_eq_some_iff.mp hu).1
    refine wpAny_pyNext_enum_itemD (draws_tuple (A := X.A.in1) (by simpa using I.ok.hd hc) it a hai its.toArray) he ⟨hit, p⟩ hlt hei (by simp [hei, hae, Ne.symm hae]) fun y h1 tk hy ho st1 hT hsz hk => ?_
    have hy' : y = u := by
      have : its.toArray[i]? = some u := by simpa using hu
      rw [this] at hy
      exact (Option.some.inj hy).symm
    subst hy'
    refine ⟨_, rfl, wpAny_letOwnedTupleGo_enum (s := { s with heap := h1, toks := tk + 1 }) ho fun h2 he2 sb => ?_⟩
    have hsb : ∀ b o, b ≠ e → h1.get? b = some o → h2.get? b = some o := fun b o hb q => sb.extBut b o hb q
    have hTf : H s.heap.objs.size = none := I.hok.fresh (Nat.le_refl _)
    have hel : e < s.heap.objs.size := Heap.lt_size he
    have hTe : s.heap.objs.size ≠ e := Nat.ne_of_gt hel
    have hk2 : ∀ b o, b ≠ e → b ≠ it → s.heap.get? b = some o → h2.get? b = some o := fun b o h3 h4 q => hsb b o h3 (hk b o h3 h4 q)
    have f1 := hf e (by simp)
    have f2 := hf it (by simp)
    have nch : ∀ b o, H b = some o → b ≠ e ∧ b ≠ it := fun b o q => ⟨ne_of_none q f1.1, ne_of_none q f2.1⟩
    have un : Un (frs X.stack) [e, it] H (upd H s.heap.objs.size (.tup [.int i, x])) s.heap h2 := by
      refine ⟨fun b o q n hb hc => ?_, fun b o q n hb hc => ⟨o.slots, ?_⟩, fun b o q n hc => ?_, fun b o q hc => ⟨o, ?_⟩, fun b ys q => ?_, fun b o v q => ?_, fun b ps q => ⟨#[], ?_⟩⟩
      · simp only [List.mem_cons, List.not_mem_nil, or_false, not_or] at hc
        exact hk2 b o hc.1 hc.2 q
      · simp only [List.mem_cons, List.not_mem_nil, or_false, not_or] at hc
        exact hk2 b o hc.1 hc.2 q
      · rw [upd_ne (Nat.ne_of_lt (Heap.lt_size q))]; exact n
      · simp only [List.mem_cons, List.not_mem_nil, or_false, not_or] at hc
        exact hk2 b o hc.1 hc.2 q
      · rw [upd_ne (ne_of_none q hTf)]; exact q
      · rw [upd_ne (ne_of_none q hTf)]; exact q
      · rw [upd_ne (ne_of_none q hTf), q]; simp
    have hok : HOk X.prog X.w (upd H s.heap.objs.size (.tup [.int i, x])) h2 := fun b v q => by
      by_cases hb : b = s.heap.objs.size
      · subst hb
        rw [upd_same] at q
        cases q
        exact ⟨by show 2 ≤ sizeLine; rw [sizeLine_eq]; decide, [.int i tk, y], .cons ⟨tk, rfl⟩ (.cons ru .nil), _, hsb _ _ hTe hT, rfl, _, rfl⟩
      · rw [upd_ne hb] at q
        refine (I.hok b v q).stay (fun c o hc r => ?_) (fun c r => by rw [upd_ne (ne_of_none r hTf)]; exact r) fun c ys r => by rw [upd_ne (ne_of_none r hTf)]; exact r
        rcases hc with rfl | hc
        · exact hk2 _ o (nch _ _ q).1 (nch _ _ q).2 r
        · exact hk2 c o (nch _ _ hc).1 (nch _ _ hc).2 r
    have I1 : Inv X pins σ (upd H s.heap.objs.size (.tup [.int i, x])) { s with heap := h2, toks := tk + 1 } := I.call' (s' := { s with heap := h2, toks := tk + 1 }) rfl un hok I.bare fun b hb => by
      have := hf b hb
      exact ⟨this.2.2.2.1, this.2.1, this.2.2.2.2.1, this.2.2.2.2.2⟩
    refine ⟨.ref s.heap.objs.size, _, I1, rfl, ⟨x, _, hTf, rfl, rfl, fun ys hy => by rw [I.tuple_inj hy hq]; exact hx⟩, ⟨⟨_, by simpa using he2⟩, ?_⟩, fun b hb => ?_⟩
    · obtain ⟨o, ho', r⟩ := st1.1
      exact ⟨o, hsb it o (Ne.symm hei) ho', r⟩
    · rcases List.mem_cons.mp hb with rfl | hb
      · rw [upd_ne (Nat.ne_of_lt hel)]; exact f1.1
      · rw [List.mem_singleton.mp hb]
        obtain ⟨o, ho', _⟩ := hit
        rw [upd_ne (Nat.ne_of_lt (Heap.lt_size ho'))]; exact f2.1
  done := by
    intro X hP hw hK hc i pins s σ H E I hf st hg
    subst hP hw hK
    obtain ⟨xs, hq, hx⟩ := hg
    obtain ⟨its, rv, p, hz⟩ := I.tuple hq
    obtain ⟨⟨old, he⟩, hit⟩ := st
    have hl := rv.length
    have f := hf it (by simp)
    exact enumT_end (by simpa using I.ok.hd hc) he hit p (by simp; omega) fun h' eb => ⟨rfl, I.turned (t' := s.toks) (fun b o hb e => eb b o hb e) f.1 f.2.1 f.2.2.2.1 f.2.2.2.2.1 f.2.2.2.2.2⟩
  self := fun A i s Q E st h => by
    obtain ⟨⟨old, he⟩, _⟩ := st
    exact wpAny_pyIter_enum he h
def enumD (l : List Dat) : List Dat := (List.range l.length).map fun i => .tup [.int (i : Nat), l.getD i .non]
theorem enumD_get {l : List Dat} {i : Nat} {d : Dat} (h : (enumD l)[i]? = some d) : ∃ e, l[i]? = some e ∧ d = .tup [.int (i : Nat), e] := by
  unfold enumD at h
  rw [List.getElem?_map] at h
  obtain ⟨j, hj, rfl⟩ := Option.map_eq_some_iff.mp h
  have hlt : i < l.length := by simpa using (List.getElem?_eq_some_iff.mp hj).1
  rw [List.getElem?_range hlt] at hj
  cases hj
  exact ⟨l[i], List.getElem?_eq_getElem hlt, by simp [hlt]⟩
theorem enumD_len (l : List Dat) : (enumD l).length = l.length := by simp [enumD]
theorem wk_enum {K : PySem.W.Frag} {G : Gs} {l : List Dat} {H : Hp} {p : Addr} {vs : List V} (h : SqT K (hid H G) p vs) (r : RepL K (hid H G) l vs) : Wk K (Ite K p) H G (enumD l) := by
  intro H' G' e
  have h' := sqT_same hid_le (sqT_same e.hid h)
  refine ⟨fun i d hd => ?_, vs, h', by rw [enumD_len, r.length]; exact Nat.le_refl _⟩
  obtain ⟨d', hd', rfl⟩ := enumD_get hd
  obtain ⟨v, hv, rv⟩ := r.get hd'
  refine ⟨⟨vs, v, h', hv⟩, fun x H'' hy => ?_⟩
  obtain ⟨y, T, hT, e1, e2, z⟩ := hy
  have hyv := z vs h'
  rw [hv] at hyv
  have hyv' : v = y := Option.some.inj hyv
  subst hyv'
  subst e1
  subst e2
  refine ⟨Ext.alloc hT, fun o => o.alloc hT, fun o => ?_⟩
  rw [Rep]
  refine ⟨T, [.int (i : Nat), v], rfl, SqT.of (hid_of (o.free hT) upd_same), RepL.cons (by rw [Rep]) (RepL.cons ((rv.same e.hid).same (Ext.alloc hT).hid) RepL.nil)⟩
section
variable {X : Cx} {ρ : Rho} {G : Gs} {a : Expr} {l : List Dat} {pos p1 : Pos} {elts : List Expr} {x1 : Nat} {tpos : Pos}
theorem wi_enum {Q : List Dat → Gs → Prop} (hm : X.mg "enumerate" = none) (ha : PX X ρ G a (.tup l)) (q : Q (enumD l) G) (hg : Gl X "enumerate" := by rfl) (he : starEach [a] X.env = (false, eval a X.env) :: starEach [] X.env := by rfl) : WI X ρ G (.Tuple elts x1 tpos) (.Call (.Name "enumerate" p1) [a] [] pos) Q := by
  intro pins s σ H I S
  refine wpAny_Call_Name_kw (ld_blt I hg hm (by decide +kernel : bootBuiltins "enumerate" = some (.type "enumerate")) ?_ (by decide) (by decide))
  refine PyProof.Rows.callWith_type1 (PyProof.Rows.spliced_more (thn (ha pins s σ H I S) fun u s1 ⟨x, H1, I1, r1, d, G1, e1, o1, rx, q1, q2⟩ => PyProof.Rows.spliced_none ?_) he) he rfl
  subst q1; subst q2
  rw [Rep] at rx
  obtain ⟨p, vs, rfl, h1, h2⟩ := rx
  cases r1
  obtain ⟨its, rv, pt, hz⟩ := I1.tuple (sqT_same hid_le h1)
  refine call_enumT (show s1.heap.IsTuple p its.toArray from pt) fun h' hen hti hk => ?_
  refine wpAny_pyIter_enum (s := { s1 with heap := h' }) hen ?_
  have hp : p < s1.heap.objs.size := by obtain ⟨o, ho, _⟩ := pt; exact Heap.lt_size ho
  refine ⟨s1.heap.objs.size + 1, [s1.heap.objs.size + 1, s1.heap.objs.size], _, _, H1, rfl, I1.kept (t' := s1.toks) hk, turn_enum p _ _ (Nat.ne_of_gt (Nat.lt_succ_self _)) (Nat.ne_of_lt hp) (Nat.ne_of_lt (Nat.lt_succ_of_lt hp)), ⟨⟨_, by simpa using hen⟩, hti⟩, fun b hb => ?_, enumD l, G1, e1, o1, wk_enum h1 h2, q⟩
  rcases List.mem_cons.mp hb with rfl | hb
  · exact I1.fpOk (Nat.le_succ _) (I1.hok.fresh (Nat.le_succ _))
  · rw [List.mem_singleton.mp hb]
    exact I1.fpOk (Nat.le_refl _) (I1.hok.fresh (Nat.le_refl _))
end
end TF
namespace TF
open PySem PySem.Spec L2
open PyProof.Rows hiding St RelV
theorem cmpF_sq {x y : Sq} (h : sqLt y x) : cmpD false (sq x) (sq y) = false := by
  obtain ⟨a, b⟩ := x
  obtain ⟨c, d⟩ := y
  show (if eqD (.int a) (.int c) = true then (if eqD (.int b) (.int d) = true then cmpL false [] [] else cmpD false (.int b) (.int d)) else cmpD false (.int a) (.int c)) = false
  unfold sqLt at h
  simp only at h
  simp only [eqD, cmpD, cmpL, beq_iff_eq, Bool.false_eq_true, if_false]
  split
  · split
    · omega
    · rw [decide_eq_false_iff_not]; omega
  · rw [decide_eq_false_iff_not]; omega
theorem cmpF_stone {s t : Stone} (h : sqLt t.1 s.1) : cmpD false (stone s) (stone t) = false := by
  show (if eqD (sq s.1) (sq t.1) = true then _ else cmpD false (sq s.1) (sq t.1)) = false
  have hne : s.1 ≠ t.1 := fun e => sqLt_irrefl _ (e ▸ h)
  rw [eqD_sq, decide_eq_false hne, if_neg Bool.false_ne_true]
  exact cmpF_sq h
theorem up_sorted {F : List Sq} (up : F.Pairwise sqLt) : F.Pairwise fun x y => TSq.le x y = true := up.imp fun {x y} h => by
  unfold TyD.le
  rw [show TSq.f = sq from rfl, lx_sq]
  have : ¬ sqLt y x := fun h' => sqLt_irrefl _ (sqLt_trans h h')
  simp [this]
theorem sort_sqs {F : List Sq} (up : F.Pairwise sqLt) {l : Lay} (C : Cov F l) : TSq.sort (sqsOf l) = F :=
  TSq.uniq ((TSq.sort_perm _).trans C.pm) (TSq.sort_sorted _) (up_sorted up)
theorem sqs_len (l : Lay) : (sqsOf l).length = 2 * l.length := by
  induction l with
  | nil => rfl
  | cons a l ih => simp only [sqsOf, List.flatMap_cons, List.length_append, List.length_cons, List.length_nil] at *; omega
theorem eqL_sqs (l : List Sq) : eqL (l.map sq) (l.map sq) = true := by
  induction l with
  | nil => rfl
  | cons a l ih =>
    show (eqD (sq a) (sq a) && eqL (l.map sq) (l.map sq)) = true
    rw [ih, eqD_sq]
    simp
theorem PXT.cast {X : Cx} {ρ : Rho} {G : Gs} {e : Expr} {p q : Bool} (h : PXT X ρ G e p) (z : p = q) : PXT X ρ G e q := z ▸ h
def spIsLay : SpD := fun ds G R => ∃ (F : List Sq) (l : Lay), ds = [fl F, lay l] ∧ F.Pairwise sqLt ∧ F.length ≤ 24 ∧ IsLay F l ∧ R (.bl true) G
end TF
namespace TF
open PySem PySem.Spec L2
open PyProof.Rows hiding St RelV
section
variable {X : Cx} {ρ : Rho} {G : Gs} {a : Expr} {pos : Pos}
end
end TF
namespace TF
open PySem PySem.Spec L2
open PyProof.Rows hiding St RelV
structure Fly (P : Program) (w : World) (outer : List Env) (H : Hp) (h : Heap) (H' : Hp) (h' : Heap) (ea : Addr) (cls : Value) : Prop where
  ex : ∃ a0 B, Heap.FlyingW B outer ea cls a0 h' ∧ HOk P w H' B ∧ (∀ b o, h.get? b = some o → H b = none → b ∉ frs outer → B.get? b = some o) ∧ ∀ b o, h.get? b = some o → b ∉ frs outer → ∃ o', B.get? b = some o'
  un : Un (frs outer) [] H H' h h'
  free : H' ea = none
def CXV (P : Program) (w : World) : CXT := fun outer H s E e s' => ∃ ea cls H', e = .ref ea ∧ s'.os = s.os ∧ AllBare s'.gens ∧ Fly P w outer H s.heap H' s'.heap ea cls ∧ E cls none H'
section
variable {X : Cx} {pins : List (Addr × Obj)} {σ : St} {H : Hp} {s : Shared}
end
section
variable {X : Cx} {ρ : Rho} {G : Gs} {D : DE} {RX : Value → Gs → Prop} {st : Stmt} {rest : List Stmt} {c : Expr} {pos : Pos}
end
end TF
namespace TF
open PySem PySem.Spec L2
open PyProof.Rows hiding St RelV
section
variable {X : Cx} {ρ : Rho} {G : Gs} {D : DE} {RX : Value → Gs → Prop} {rest : List Stmt} {es : List Expr} {e₀ : Expr} {ds : List Dat} {pos np cpos : Pos} {x : Str} {C : Addr} {bmB : List Value} {newId initId Bn : String}
end
abbrev SpX := List Dat → Gs → (Dat → Gs → Prop) → (Value → Gs → Prop) → Prop
def liftX (K : PySem.W.Frag) (S : SpX) : Sp := fun vs H Q E => ∃ ds G R RX, GOk K H G ∧ RepL K (hid H G) ds vs ∧ S ds G R RX ∧ (∀ v H' d G', Ext H G H' G' → GOk K H' G' → Rep K (hid H' G') d v → R d G' → Q v H') ∧ ∀ cls H' G', Ext H G H' G' → GOk K H' G' → RX cls G' → E cls none H'
section
variable {P : Program} {w : World} {K : PySem.W.Frag} {mg : Str → Option Value} {base : Heap}
end
structure DfX (P : Program) (w : World) (K : PySem.W.Frag) (mg : Str → Option Value) (base : Heap) (x : Str) (ps : List Str) (k : Nat) (S : SpX) : Prop where
  ex : ∃ f fd, FnOk P w K mg base (CXV P w) k f fd ps (liftX K S) ∧ mg x = some (.ref f) ∧ PySem.W.keepIn K (.ref f) = true ∧ Binds K fd ps []
end TF
namespace TF
open PySem PySem.Spec L2
open PyProof.Rows hiding St RelV
section
variable {M : Model} {A : Around} {E : Value → Shared → Prop}
end
section
variable {X : Cx} {ρ : Rho} {G : Gs} {e : Expr} {es : List Expr} {ds : List Dat} {pos p : Pos} {S : SpX} {k : Nat} {ps : List Str} {x : Str} {Q : Dat → Gs → Prop} {RX : Value → Gs → Prop} {D : DE} {rest : List Stmt}
abbrev Cx.mk' (X : Cx) (ea : Addr) : Cx := { X with A := X.A.mark (some (.ref ea)), calm := false }
end
section
variable {X : Cx} {pins : List (Addr × Obj)} {σ : St} {H : Hp} {s : Shared} {ea : Addr}
end
section
variable {X : Cx} {ρ : Rho} {G : Gs} {RX : Value → Gs → Prop} {D : DE} {rest body suite : List Stmt} {b₀ : Stmt} {pos np hpos : Pos} {cx : Str}
end
end TF
namespace TF
open PySem PySem.Spec L2
open PyProof.Rows hiding St RelV
abbrev Cx.sx (X : Cx) (ea : Addr) (oe : Obj) : Cx := { X with A := X.A.mark (some (.ref ea)), calm := false, pn := (ea, oe) :: X.pn, xe := fun _ _ => False }
section
variable {X : Cx} {pins : List (Addr × Obj)} {σ : St} {H : Hp} {s : Shared} {ea : Addr} {oe : Obj} {vs : Array Value}
end
section
variable {X : Cx} {ρ : Rho} {G : Gs} {RX : Value → Gs → Prop} {D : DE} {rest body suite : List Stmt} {b₀ : Stmt} {pos np hpos : Pos} {cx n : Str}
end
section
variable {prog : Program} {w : World} {A : Around} {E : Value → Shared → Prop} {s : Shared}
end
end TF
namespace TF
open PySem PySem.Spec L2
open PyProof.Rows hiding St RelV
section
variable {X : Cx} {ρ : Rho} {G : Gs} {ea : Addr} {oe : Obj} {a : Expr} {pos pp p2 : Pos} {i : Nat}
end
end TF
namespace TF
open PySem PySem.Spec L2
open PyProof.Rows hiding St RelV
section
variable {X : Cx} {ρ : Rho} {G : Gs} {e : Expr} {n : Int} {a b : Str} {k1 k2 : Nat} {p1 p2 p3 pos : Pos}
end
end TF
namespace TF
open PySem PySem.Spec L2
open PyProof.Rows hiding St RelV
def HasK (kvs : List (Dat × Dat)) (k : Nat) (t : List Sq) : Prop := (lookD kvs (keyOf k t)).isSome = true
abbrev Bg := Lay × List Sq
def outM (floor rest : List Sq) (bs : List Bg) : List Lay := bs.flatMap fun b => (waysL floor rest b.2).map (b.1 ++ ·)
structure BInv (floor : List Sq) (kvs : List (Dat × Dat)) (k : Nat) (bs : List Bg) : Prop where
  out : outM floor (floor.drop k) bs = allM floor
  fewL : bs.length ≤ (allM floor).length + 1
  key : k < floor.length → ∀ b ∈ bs, HasK kvs k b.2
  len : ∀ b ∈ bs, b.2.length ≤ k ∧ b.1.length ≤ k
theorem BInv.few {floor : List Sq} {kvs : List (Dat × Dat)} {k : Nat} {bs : List Bg} (h : BInv floor kvs k bs) (h2 : (allM floor).length ≤ 200) : bs.length ≤ 201 := by
  have := h.fewL
  omega
end TF
namespace TF
open PySem PySem.Spec L2
open PyProof.Rows hiding St RelV
section
variable {X : Cx} {ρ : Rho} {G : Gs} {a b : Expr} {d : Dat} {pos : Pos} {i j : Int}
end
end TF
namespace TF
open PySem PySem.Spec L2
open PyProof.Rows hiding St RelV
section
open PySem.SeqAt
open PySem.AutoSeq1 (wpAny_loadPart')
open PySem.MeetsSeq PySem.MeetsSeq2 PySem.MeetsSeq3
def gt2 (a b c d : Int) : Bool := if a == c then decide (d < b) else decide (c < a)
theorem tuple_gt_2 (l b : Addr) (a1 a2 b1 b2 : Int) (t1 t2 u1 u2 : Tok) (n n2 : Nat) (dd dd2 : Option Addr) (sl sl2 : Array (Option Value)) :
    Meets (Builtin.«tuple.__gt__» ⟨[.ref l, .ref b], []⟩)
      (fun A R s => EqAt A.in1 s (.int a1 t1) (.int b1 u1) (a1 == b1) ∧ EqAt A.in1 s (.int a2 t2) (.int b2 u2) (a2 == b2) ∧ s.heap.get? l = some { cls := .type "tuple", dict := dd, data := .seq #[.int a1 t1, .int a2 t2] n, slots := sl } ∧ s.heap.get? b = some { cls := .type "tuple", dict := dd2, data := .seq #[.int b1 u1, .int b2 u2] n2, slots := sl2 } ∧
        R (.ok (.ret (.bool (gt2 a1 a2 b1 b2)))) s) :=
  .of_wp fun prog w A R s h => by
    obtain ⟨hp, g, d, tk, os⟩ := s; obtain ⟨he1, he2, hl, hb, h⟩ := h
    have f2 := AutoSeq1.sub_tuple_tuple
    wp_walk using wpAny_loadPart' hl, wpAny_loadPart' hb, wpAny_forIn_list _ (fun rest b s' => b.1 = none ∧ s' = ⟨hp, g, d, tk, os⟩ ∧ (rest = [(.int a1 t1, .int b1 u1), (.int a2 t2, .int b2 u2)] ∨ (rest = [(.int a2 t2, .int b2 u2)] ∧ a1 = b1) ∨ (rest = [] ∧ a1 = b1 ∧ a2 = b2))) _
    case turn =>
      rintro ⟨y, x⟩ rest b s' ⟨hb', rfl, hz⟩
      rcases hz with hz | ⟨hz, e1⟩ | ⟨hz, _⟩
      · injection hz with hyx hrest
        injection hyx with hy hx
        subst hy hx hrest
        refine wpAny_bind (he1 prog w _ _ ?_)
        cases hq : (a1 == b1) with
        | true =>
          wp_walk
          exact ⟨rfl, rfl, .inr (.inl ⟨rfl, by simpa using hq⟩)⟩
        | false =>
          have hri : ∀ (E : Value → Shared → Prop) (Q : Value → Shared → Prop), Q (.bool (decide (b1 < a1))) ⟨hp, g, d, tk, os⟩ → wpAny (model prog w) A.in1 (richCompare .Gt (.int a1 t1) (.int b1 u1)) Q E ⟨hp, g, d, tk, os⟩ := fun E Q h => (PyProof.Rows.gt_int h : wpAny (model prog w) A.in1 (compareOp .Gt (.int a1 t1) (.int b1 u1)) Q E _)
          have e : gt2 a1 a2 b1 b2 = decide (b1 < a1) := by unfold gt2; rw [hq]; rfl
          rw [e] at h
          wp_walk using hri
          exact ⟨_, rfl, by simpa using h⟩
      · injection hz with hyx hrest
        injection hyx with hy hx
        subst hy hx hrest
        refine wpAny_bind (he2 prog w _ _ ?_)
        cases hq : (a2 == b2) with
        | true =>
          wp_walk
          exact ⟨rfl, rfl, .inr (.inr ⟨rfl, e1, by simpa using hq⟩)⟩
        | false =>
          have hri : ∀ (E : Value → Shared → Prop) (Q : Value → Shared → Prop), Q (.bool (decide (b2 < a2))) ⟨hp, g, d, tk, os⟩ → wpAny (model prog w) A.in1 (richCompare .Gt (.int a2 t2) (.int b2 u2)) Q E ⟨hp, g, d, tk, os⟩ := fun E Q h => (PyProof.Rows.gt_int h : wpAny (model prog w) A.in1 (compareOp .Gt (.int a2 t2) (.int b2 u2)) Q E _)
          have e : gt2 a1 a2 b1 b2 = decide (b2 < a2) := by unfold gt2; rw [e1, beq_self_eq_true]; rfl
          rw [e] at h
          wp_walk using hri
          exact ⟨_, rfl, by simpa using h⟩
      · cases hz
    case fin =>
      rintro ⟨b1', b2'⟩ s' ⟨hb', rfl, hz⟩
      simp only at hb'
      subst hb'
      rcases hz with hz | ⟨hz, e1⟩ | ⟨hz, e1, e2⟩
      · cases hz
      · cases hz
      · have e : gt2 a1 a2 b1 b2 = false := by unfold gt2; rw [e1, beq_self_eq_true, e2]; simp
        rw [e] at h
        wp_walk
        exact ⟨_, rfl, by simpa [Builtin.Tuple.tupleCompareSizes] using h⟩
    case h => exact ⟨rfl, rfl, .inl rfl⟩
end
section
variable {prog : Program} {w : World} {A : Around} {R : Result → Shared → Prop} {I : Addr} {fp wr : List Addr} {n : Nat} {P : Nat → Value → Prop} {St : Nat → Heap → Prop} {S : Addr} {s : Shared} {c : Nat}
theorem min_end {vb : Value} (W : Walks prog w A.in1 I fp wr n P St) (hSf : S ∉ fp) (hst : St n s.heap) (hS : s.heap.get? S = some { cls := .type "list", dict := none, data := .seq #[vb, vb] c, slots := #[] })
    (hR : ∀ h' tk, (∀ b o, b ∉ wr → b ≠ S → s.heap.get? b = some o → h'.get? b = some o) → R (.ok (.ret vb)) { s with heap := h', toks := tk }) : codeAny (model prog w) A (.builtin "min.loop" ⟨[.ref I, .none, .ref S], []⟩) R s := by
  have hSw : S ∉ wr := fun h => hSf (W.sub _ h)
  refine codeAny_builtin F.entry_min_loop ?_
  rw [Around.under_plainId F.plain_min_loop _]
  show wpAny _ A.in1 (seqItems? (.ref S) >>= _) _ _ s
  refine wpAny_bind (wpAny_seqItems hS rfl ?_)
  show wpAny _ A.in1 (tryCatch (pyNext (.ref I)) _ >>= _) _ _ s
  refine wpAny_bind (wpAny_tryCatch (W.done s _ _ hst fun h' tk hk' => ?_))
  have hS' := hk' S _ hSw hS
  show wpAny _ A.in1 (updateSeq S (fun _ => #[]) >>= _) _ _ _
  refine wpAny_bind ?_
  refine wpAny_updateSeq hS' rfl (wpAny_bind (wpAny_letGo (wpAny_pure ?_)))
  exact hR _ tk fun b o hbw hbS e => (Heap.get?_update_other _ _ (Ne.symm hbS)).trans (hk' b o hbw e)
theorem min_next {vb : Value} {j : Nat} (bt : Bool) (W : Walks prog w A.in1 I fp wr n P St) (hSf : S ∉ fp) (hj : j < n) (hst : St j s.heap) (hS : s.heap.get? S = some { cls := .type "list", dict := none, data := .seq #[vb, vb] c, slots := #[] })
    (hk : ∀ v h' tk, P j v → (∀ b o, b ∉ wr → s.heap.get? b = some o → h'.get? b = some o) → (∀ (Q' E' : Value → Shared → Prop), Q' (.bool bt) { s with heap := h', toks := tk } → wpAny (model prog w) A.in1 (richCompare .Lt v vb) Q' E' { s with heap := h', toks := tk }) ∧
      ∀ h'' c', (∀ b o, b ≠ S → h'.get? b = some o → h''.get? b = some o) → St (j + 1) h'' → h''.get? S = some { cls := .type "list", dict := none, data := .seq #[if bt then v else vb, if bt then v else vb] c', slots := #[] } →
        codeAny (model prog w) A (.builtin "min.loop" ⟨[.ref I, .none, .ref S], []⟩) R { s with heap := h'', toks := tk }) : codeAny (model prog w) A (.builtin "min.loop" ⟨[.ref I, .none, .ref S], []⟩) R s := by
  have hSw : S ∉ wr := fun h => hSf (W.sub _ h)
  have hname : (toString "min" ++ toString ".loop" : String) = "min.loop" := by decide
  refine codeAny_builtin F.entry_min_loop ?_
  rw [Around.under_plainId F.plain_min_loop _]
  show wpAny _ A.in1 (seqItems? (.ref S) >>= _) _ _ s
  refine wpAny_bind (wpAny_seqItems hS rfl ?_)
  show wpAny _ A.in1 (tryCatch (pyNext (.ref I)) _ >>= _) _ _ s
  refine wpAny_bind (wpAny_tryCatch (W.item j s _ _ hj hst fun v h' tk hP hst' hk' => ?_))
  have hS' := hk' S _ hSw hS
  obtain ⟨hcmp, go⟩ := hk v h' tk hP hk'
  show wpAny _ A.in1 (tryCatch (holding [v, v] (richCompare .Lt v vb >>= _)) _ >>= _) _ _ _
  refine wpAny_bind (wpAny_tryCatch (wpAny_holding (wpAny_bind (hcmp _ _ ?_))))
  refine wpAny_bind (wpAny_holding (wpAny_truthy_bool ?_))
  refine wpAny_bind (wpAny_letGo (wpAny_pure ?_))
  cases bt with
  | true =>
    simp only [if_true]
    refine wpAny_bind ?_
    refine wpAny_updateSeq hS' rfl (wpAny_bind (wpAny_letGo ?_))
    rw [hname]
    refine wpAny_pure ⟨plainId_quiet F.plain_min_loop _, go _ _ (fun b o hb e => (Heap.get?_update_other _ _ (Ne.symm hb)).trans e) (W.frame _ _ _ hst' fun b hbf o e => ?_) (Heap.get?_update_self _ hS' rfl)⟩
    exact (Heap.get?_update_other _ _ (fun h : S = b => hSf (by rw [h]; exact hbf))).trans e
  | false =>
    simp only [Bool.false_eq_true, if_false]
    refine wpAny_bind (wpAny_letGo ?_)
    rw [hname]
    exact wpAny_pure ⟨plainId_quiet F.plain_min_loop _, go _ c (fun b o _ e => e) hst' hS'⟩
theorem min_first (W : Walks prog w A.in1 I fp wr n P St) (hSf : S ∉ fp) (hn : 0 < n) (hst : St 0 s.heap) (hS : s.heap.get? S = some { cls := .type "list", dict := none, data := .seq #[] c, slots := #[] })
    (hk : ∀ v h'' tk c', P 0 v → (∀ b o, b ∉ wr → b ≠ S → s.heap.get? b = some o → h''.get? b = some o) → St 1 h'' → h''.get? S = some { cls := .type "list", dict := none, data := .seq #[v, v] c', slots := #[] } →
        codeAny (model prog w) A (.builtin "min.loop" ⟨[.ref I, .none, .ref S], []⟩) R { s with heap := h'', toks := tk }) : codeAny (model prog w) A (.builtin "min.loop" ⟨[.ref I, .none, .ref S], []⟩) R s := by
  have hSw : S ∉ wr := fun h => hSf (W.sub _ h)
  have hname : (toString "min" ++ toString ".loop" : String) = "min.loop" := by decide
  refine codeAny_builtin F.entry_min_loop ?_
  rw [Around.under_plainId F.plain_min_loop _]
  show wpAny _ A.in1 (seqItems? (.ref S) >>= _) _ _ s
  refine wpAny_bind (wpAny_seqItems hS rfl ?_)
  show wpAny _ A.in1 (tryCatch (pyNext (.ref I)) _ >>= _) _ _ s
  refine wpAny_bind (wpAny_tryCatch (W.item 0 s _ _ hn hst fun v h' tk hP hst' hk' => ?_))
  have hS' := hk' S _ hSw hS
  show wpAny _ A.in1 (updateSeq S (fun _ => #[v, v]) >>= _) _ _ _
  refine wpAny_bind ?_
  refine wpAny_updateSeq hS' rfl ?_
  rw [hname]
  refine wpAny_pure ⟨plainId_quiet F.plain_min_loop _, hk v _ tk _ hP (fun b o hbw hbS e => (Heap.get?_update_other _ _ (Ne.symm hbS)).trans (hk' b o hbw e)) (W.frame _ _ _ hst' fun b hbf o e => ?_) (Heap.get?_update_self _ hS' rfl)⟩
  exact (Heap.get?_update_other _ _ (fun h : S = b => hSf (by rw [h]; exact hbf))).trans e
end
theorem min_run {prog : Program} {w : World} {A : Around} {s : Shared} {x y : Value} {R : Result → Shared → Prop} {T I S : Addr} {h3 : Heap} {c : Nat} (hh : A.handled = none) (bt : Bool)
    (hc : ∀ (h' : Heap) (tk : Nat) (Q' E' : Value → Shared → Prop), (∀ c o, s.heap.get? c = some o → h'.get? c = some o) → Q' (.bool bt) { s with heap := h', toks := tk } → wpAny (model prog w) A.in1 (richCompare .Lt y x) Q' E' { s with heap := h', toks := tk })
    (old : ∀ b o, s.heap.get? b = some o → h3.get? b = some o) (hT : h3.IsTuple T #[x, y]) (hI : h3.IsTupleIter I T 0) (hS : h3.get? S = some { cls := .type "list", dict := none, data := .seq #[] c, slots := #[] }) (nI : s.heap.objs.size ≤ I) (nS : s.heap.objs.size ≤ S) (e1 : I ≠ T) (e2 : S ≠ I) (e3 : S ≠ T)
    (h : ∀ h' tk, (∀ c o, s.heap.get? c = some o → h'.get? c = some o) → R (.ok (.ret (if bt then y else x))) { s with heap := h', toks := tk }) : codeAny (model prog w) A (.builtin "min.loop" ⟨[.ref I, .none, .ref S], []⟩) R { s with heap := h3 } := by
  have W := Walks.tuple (prog := prog) (w := w) (A := A.in1) hh I T e1.symm #[x, y]
  have hSf : S ∉ [I, T] := by simp [e2, e3]
  have lt : ∀ b o, s.heap.get? b = some o → b ∉ [I] ∧ b ≠ S := fun b o e => by
    have h1 : b < s.heap.objs.size := Heap.lt_size e
    refine ⟨fun hm => ?_, fun z => ?_⟩
    · rw [List.mem_singleton.mp hm] at h1; exact absurd h1 (Nat.not_lt.mpr nI)
    · rw [z] at h1; exact absurd h1 (Nat.not_lt.mpr nS)
  refine min_first (s := { s with heap := h3 }) W hSf (show 0 < 2 from Nat.zero_lt_succ 1) ⟨hI, hT⟩ hS fun v h4 tk4 c4 hP4 k4 st4 hS4 => ?_
  have ev : v = x := by simpa using hP4.symm
  subst ev
  refine min_next (s := { s with heap := h4, toks := tk4 }) (j := 1) bt W hSf (show 1 < 2 from Nat.lt_succ_self 1) st4 hS4 fun u h5 tk5 hP5 k5 => ?_
  have eu : u = y := by simpa using hP5.symm
  subst eu
  have old5 : ∀ b o, s.heap.get? b = some o → h5.get? b = some o := fun b o e => k5 b o (lt b o e).1 (k4 b o (lt b o e).1 (lt b o e).2 (old b o e))
  refine ⟨fun Q' E' q => hc h5 tk5 Q' E' old5 q, fun h6 c6 k6 st6 hS6 => ?_⟩
  refine min_end (s := { s with heap := h6, toks := tk5 }) W hSf st6 hS6 fun h7 tk7 k7 => ?_
  exact h h7 tk7 fun b o e => k7 b o (lt b o e).1 (lt b o e).2 (k6 b o (lt b o e).2 (old5 b o e))
theorem min_two {prog : Program} {w : World} {A : Around} {E : Value → Shared → Prop} {s : Shared} {x y : Value} {Q : Value → Shared → Prop} (hh : A.handled = none) (bt : Bool)
    (hc : ∀ (h' : Heap) (tk : Nat) (Q' E' : Value → Shared → Prop), (∀ c o, s.heap.get? c = some o → h'.get? c = some o) → Q' (.bool bt) { s with heap := h', toks := tk } → wpAny (model prog w) A.in1 (richCompare .Lt y x) Q' E' { s with heap := h', toks := tk })
    (h : ∀ h' tk, (∀ c o, s.heap.get? c = some o → h'.get? c = some o) → Q (if bt then y else x) { s with heap := h', toks := tk }) : wpAny (model prog w) A (call (.builtin "min") [x, y]) Q E s := by
  have hname : (toString "min" ++ toString ".loop" : String) = "min.loop" := by decide
  refine call_function_tree F.kind_min F.plain_min F.entry_min (F.args_min2 _ _) ?_
  show wpAny _ A.in1 (Builtin.Builtins.bindParams "min" ["key", "default"] 0 ⟨[], []⟩ >>= _) _ _ s
  refine wpAny_bind (wpAny_of_eq (show Builtin.Builtins.bindParams "min" ["key", "default"] 0 ⟨[], []⟩ = pure [none, none] from rfl) ?_)
  show wpAny _ A.in1 (newTuple [x, y] >>= _) _ _ s
  refine wpAny_bind (wpAny_newObj_type ?_)
  have hT : (s.heap.push { cls := .type "tuple", data := .seq #[x, y] }).IsTuple s.heap.objs.size #[x, y] := ⟨_, Heap.get?_push_size _ rfl, rfl, 0, rfl⟩
  refine wpAny_bind (wpAny_pyIter_tuple hT ?_)
  refine wpAny_bind (wpAny_newObj_type ?_)
  rw [hname]
  have z1 : (s.heap.push { cls := .type "tuple", data := .seq #[x, y] }).objs.size = s.heap.objs.size + 1 := Heap.size_push ..
  have z2 : ((s.heap.push { cls := .type "tuple", data := .seq #[x, y] }).push { cls := Value.type "tuple_iterator", data := Data.fields #[Value.ref s.heap.objs.size, Value.int 0 0] }).objs.size = s.heap.objs.size + 1 + 1 := by rw [Heap.size_push, z1]
  refine wpAny_pure ⟨plainId_quiet F.plain_min_loop _, min_run (s := s) (c := 0) hh bt hc (fun b o e => Heap.get?_push_of_some _ (Heap.get?_push_of_some _ (Heap.get?_push_of_some _ e))) ((hT.push _).push _) ⟨_, Heap.get?_push_of_some _ (Heap.get?_push_size _ rfl), rfl, rfl⟩ (Heap.get?_push_size _ rfl) ?_ ?_ ?_ ?_ ?_ h⟩
  · exact Nat.le_trans (Nat.le_succ _) (Nat.le_of_eq z1.symm)
  · exact Nat.le_trans (Nat.le_trans (Nat.le_succ _) (Nat.le_succ _)) (Nat.le_of_eq z2.symm)
  · exact fun z => Nat.succ_ne_self _ (z1.symm.trans z)
  · exact fun z => Nat.succ_ne_self _ ((z2.symm.trans z).trans z1)
  · exact fun z => absurd (z2.symm.trans z) (Nat.ne_of_gt (Nat.lt_succ_of_lt (Nat.lt_succ_self _)))
section
variable {prog : Program} {w : World} {A : Around} {R : Result → Shared → Prop} {I : Addr} {fp wr : List Addr} {n : Nat} {P : Nat → Value → Prop} {St : Nat → Heap → Prop} {S : Addr} {s : Shared} {c : Nat}
theorem max_end {vb : Value} (W : Walks prog w A.in1 I fp wr n P St) (hSf : S ∉ fp) (hst : St n s.heap) (hS : s.heap.get? S = some { cls := .type "list", dict := none, data := .seq #[vb, vb] c, slots := #[] })
    (hR : ∀ h' tk, (∀ b o, b ∉ wr → b ≠ S → s.heap.get? b = some o → h'.get? b = some o) → R (.ok (.ret vb)) { s with heap := h', toks := tk }) : codeAny (model prog w) A (.builtin "max.loop" ⟨[.ref I, .none, .ref S], []⟩) R s := by
  have hSw : S ∉ wr := fun h => hSf (W.sub _ h)
  refine codeAny_builtin F.entry_max_loop ?_
  rw [Around.under_plainId F.plain_max_loop _]
  show wpAny _ A.in1 (seqItems? (.ref S) >>= _) _ _ s
  refine wpAny_bind (wpAny_seqItems hS rfl ?_)
  show wpAny _ A.in1 (tryCatch (pyNext (.ref I)) _ >>= _) _ _ s
  refine wpAny_bind (wpAny_tryCatch (W.done s _ _ hst fun h' tk hk' => ?_))
  have hS' := hk' S _ hSw hS
  show wpAny _ A.in1 (updateSeq S (fun _ => #[]) >>= _) _ _ _
  refine wpAny_bind ?_
  refine wpAny_updateSeq hS' rfl (wpAny_bind (wpAny_letGo (wpAny_pure ?_)))
  exact hR _ tk fun b o hbw hbS e => (Heap.get?_update_other _ _ (Ne.symm hbS)).trans (hk' b o hbw e)
theorem max_next {vb : Value} {j : Nat} (bt : Bool) (W : Walks prog w A.in1 I fp wr n P St) (hSf : S ∉ fp) (hj : j < n) (hst : St j s.heap) (hS : s.heap.get? S = some { cls := .type "list", dict := none, data := .seq #[vb, vb] c, slots := #[] })
    (hk : ∀ v h' tk, P j v → (∀ b o, b ∉ wr → s.heap.get? b = some o → h'.get? b = some o) → (∀ (Q' E' : Value → Shared → Prop), Q' (.bool bt) { s with heap := h', toks := tk } → wpAny (model prog w) A.in1 (richCompare .Gt v vb) Q' E' { s with heap := h', toks := tk }) ∧
      ∀ h'' c', (∀ b o, b ≠ S → h'.get? b = some o → h''.get? b = some o) → St (j + 1) h'' → h''.get? S = some { cls := .type "list", dict := none, data := .seq #[if bt then v else vb, if bt then v else vb] c', slots := #[] } →
        codeAny (model prog w) A (.builtin "max.loop" ⟨[.ref I, .none, .ref S], []⟩) R { s with heap := h'', toks := tk }) : codeAny (model prog w) A (.builtin "max.loop" ⟨[.ref I, .none, .ref S], []⟩) R s := by
  have hSw : S ∉ wr := fun h => hSf (W.sub _ h)
  have hname : (toString "max" ++ toString ".loop" : String) = "max.loop" := by decide
  refine codeAny_builtin F.entry_max_loop ?_
  rw [Around.under_plainId F.plain_max_loop _]
  show wpAny _ A.in1 (seqItems? (.ref S) >>= _) _ _ s
  refine wpAny_bind (wpAny_seqItems hS rfl ?_)
  show wpAny _ A.in1 (tryCatch (pyNext (.ref I)) _ >>= _) _ _ s
  refine wpAny_bind (wpAny_tryCatch (W.item j s _ _ hj hst fun v h' tk hP hst' hk' => ?_))
  have hS' := hk' S _ hSw hS
  obtain ⟨hcmp, go⟩ := hk v h' tk hP hk'
  show wpAny _ A.in1 (tryCatch (holding [v, v] (richCompare .Gt v vb >>= _)) _ >>= _) _ _ _
  refine wpAny_bind (wpAny_tryCatch (wpAny_holding (wpAny_bind (hcmp _ _ ?_))))
  refine wpAny_bind (wpAny_holding (wpAny_truthy_bool ?_))
  refine wpAny_bind (wpAny_letGo (wpAny_pure ?_))
  cases bt with
  | true =>
    simp only [if_true]
    refine wpAny_bind ?_
    refine wpAny_updateSeq hS' rfl (wpAny_bind (wpAny_letGo ?_))
    rw [hname]
    refine wpAny_pure ⟨plainId_quiet F.plain_max_loop _, go _ _ (fun b o hb e => (Heap.get?_update_other _ _ (Ne.symm hb)).trans e) (W.frame _ _ _ hst' fun b hbf o e => ?_) (Heap.get?_update_self _ hS' rfl)⟩
    exact (Heap.get?_update_other _ _ (fun h : S = b => hSf (by rw [h]; exact hbf))).trans e
  | false =>
    simp only [Bool.false_eq_true, if_false]
    refine wpAny_bind (wpAny_letGo ?_)
    rw [hname]
    exact wpAny_pure ⟨plainId_quiet F.plain_max_loop _, go _ c (fun b o _ e => e) hst' hS'⟩
theorem max_first (W : Walks prog w A.in1 I fp wr n P St) (hSf : S ∉ fp) (hn : 0 < n) (hst : St 0 s.heap) (hS : s.heap.get? S = some { cls := .type "list", dict := none, data := .seq #[] c, slots := #[] })
    (hk : ∀ v h'' tk c', P 0 v → (∀ b o, b ∉ wr → b ≠ S → s.heap.get? b = some o → h''.get? b = some o) → St 1 h'' → h''.get? S = some { cls := .type "list", dict := none, data := .seq #[v, v] c', slots := #[] } →
        codeAny (model prog w) A (.builtin "max.loop" ⟨[.ref I, .none, .ref S], []⟩) R { s with heap := h'', toks := tk }) : codeAny (model prog w) A (.builtin "max.loop" ⟨[.ref I, .none, .ref S], []⟩) R s := by
  have hSw : S ∉ wr := fun h => hSf (W.sub _ h)
  have hname : (toString "max" ++ toString ".loop" : String) = "max.loop" := by decide
  refine codeAny_builtin F.entry_max_loop ?_
  rw [Around.under_plainId F.plain_max_loop _]
  show wpAny _ A.in1 (seqItems? (.ref S) >>= _) _ _ s
  refine wpAny_bind (wpAny_seqItems hS rfl ?_)
  show wpAny _ A.in1 (tryCatch (pyNext (.ref I)) _ >>= _) _ _ s
  refine wpAny_bind (wpAny_tryCatch (W.item 0 s _ _ hn hst fun v h' tk hP hst' hk' => ?_))
  have hS' := hk' S _ hSw hS
  show wpAny _ A.in1 (updateSeq S (fun _ => #[v, v]) >>= _) _ _ _
  refine wpAny_bind ?_
  refine wpAny_updateSeq hS' rfl ?_
  rw [hname]
  refine wpAny_pure ⟨plainId_quiet F.plain_max_loop _, hk v _ tk _ hP (fun b o hbw hbS e => (Heap.get?_update_other _ _ (Ne.symm hbS)).trans (hk' b o hbw e)) (W.frame _ _ _ hst' fun b hbf o e => ?_) (Heap.get?_update_self _ hS' rfl)⟩
  exact (Heap.get?_update_other _ _ (fun h : S = b => hSf (by rw [h]; exact hbf))).trans e
end
theorem max_run {prog : Program} {w : World} {A : Around} {s : Shared} {x y : Value} {R : Result → Shared → Prop} {T I S : Addr} {h3 : Heap} {c : Nat} (hh : A.handled = none) (bt : Bool)
    (hc : ∀ (h' : Heap) (tk : Nat) (Q' E' : Value → Shared → Prop), (∀ c o, s.heap.get? c = some o → h'.get? c = some o) → Q' (.bool bt) { s with heap := h', toks := tk } → wpAny (model prog w) A.in1 (richCompare .Gt y x) Q' E' { s with heap := h', toks := tk })
    (old : ∀ b o, s.heap.get? b = some o → h3.get? b = some o) (hT : h3.IsTuple T #[x, y]) (hI : h3.IsTupleIter I T 0) (hS : h3.get? S = some { cls := .type "list", dict := none, data := .seq #[] c, slots := #[] }) (nI : s.heap.objs.size ≤ I) (nS : s.heap.objs.size ≤ S) (e1 : I ≠ T) (e2 : S ≠ I) (e3 : S ≠ T)
    (h : ∀ h' tk, (∀ c o, s.heap.get? c = some o → h'.get? c = some o) → R (.ok (.ret (if bt then y else x))) { s with heap := h', toks := tk }) : codeAny (model prog w) A (.builtin "max.loop" ⟨[.ref I, .none, .ref S], []⟩) R { s with heap := h3 } := by
  have W := Walks.tuple (prog := prog) (w := w) (A := A.in1) hh I T e1.symm #[x, y]
  have hSf : S ∉ [I, T] := by simp [e2, e3]
  have lt : ∀ b o, s.heap.get? b = some o → b ∉ [I] ∧ b ≠ S := fun b o e => by
    have h1 : b < s.heap.objs.size := Heap.lt_size e
    refine ⟨fun hm => ?_, fun z => ?_⟩
    · rw [List.mem_singleton.mp hm] at h1; exact absurd h1 (Nat.not_lt.mpr nI)
    · rw [z] at h1; exact absurd h1 (Nat.not_lt.mpr nS)
  refine max_first (s := { s with heap := h3 }) W hSf (show 0 < 2 from Nat.zero_lt_succ 1) ⟨hI, hT⟩ hS fun v h4 tk4 c4 hP4 k4 st4 hS4 => ?_
  have ev : v = x := by simpa using hP4.symm
  subst ev
  refine max_next (s := { s with heap := h4, toks := tk4 }) (j := 1) bt W hSf (show 1 < 2 from Nat.lt_succ_self 1) st4 hS4 fun u h5 tk5 hP5 k5 => ?_
  have eu : u = y := by simpa using hP5.symm
  subst eu
  have old5 : ∀ b o, s.heap.get? b = some o → h5.get? b = some o := fun b o e => k5 b o (lt b o e).1 (k4 b o (lt b o e).1 (lt b o e).2 (old b o e))
  refine ⟨fun Q' E' q => hc h5 tk5 Q' E' old5 q, fun h6 c6 k6 st6 hS6 => ?_⟩
  refine max_end (s := { s with heap := h6, toks := tk5 }) W hSf st6 hS6 fun h7 tk7 k7 => ?_
  exact h h7 tk7 fun b o e => k7 b o (lt b o e).1 (lt b o e).2 (k6 b o (lt b o e).2 (old5 b o e))
theorem max_two {prog : Program} {w : World} {A : Around} {E : Value → Shared → Prop} {s : Shared} {x y : Value} {Q : Value → Shared → Prop} (hh : A.handled = none) (bt : Bool)
    (hc : ∀ (h' : Heap) (tk : Nat) (Q' E' : Value → Shared → Prop), (∀ c o, s.heap.get? c = some o → h'.get? c = some o) → Q' (.bool bt) { s with heap := h', toks := tk } → wpAny (model prog w) A.in1 (richCompare .Gt y x) Q' E' { s with heap := h', toks := tk })
    (h : ∀ h' tk, (∀ c o, s.heap.get? c = some o → h'.get? c = some o) → Q (if bt then y else x) { s with heap := h', toks := tk }) : wpAny (model prog w) A (call (.builtin "max") [x, y]) Q E s := by
  have hname : (toString "max" ++ toString ".loop" : String) = "max.loop" := by decide
  refine call_function_tree F.kind_max F.plain_max F.entry_max (F.args_max2 _ _) ?_
  show wpAny _ A.in1 (Builtin.Builtins.bindParams "max" ["key", "default"] 0 ⟨[], []⟩ >>= _) _ _ s
  refine wpAny_bind (wpAny_of_eq (show Builtin.Builtins.bindParams "max" ["key", "default"] 0 ⟨[], []⟩ = pure [none, none] from rfl) ?_)
  show wpAny _ A.in1 (newTuple [x, y] >>= _) _ _ s
  refine wpAny_bind (wpAny_newObj_type ?_)
  have hT : (s.heap.push { cls := .type "tuple", data := .seq #[x, y] }).IsTuple s.heap.objs.size #[x, y] := ⟨_, Heap.get?_push_size _ rfl, rfl, 0, rfl⟩
  refine wpAny_bind (wpAny_pyIter_tuple hT ?_)
  refine wpAny_bind (wpAny_newObj_type ?_)
  rw [hname]
  have z1 : (s.heap.push { cls := .type "tuple", data := .seq #[x, y] }).objs.size = s.heap.objs.size + 1 := Heap.size_push ..
  have z2 : ((s.heap.push { cls := .type "tuple", data := .seq #[x, y] }).push { cls := Value.type "tuple_iterator", data := Data.fields #[Value.ref s.heap.objs.size, Value.int 0 0] }).objs.size = s.heap.objs.size + 1 + 1 := by rw [Heap.size_push, z1]
  refine wpAny_pure ⟨plainId_quiet F.plain_max_loop _, max_run (s := s) (c := 0) hh bt hc (fun b o e => Heap.get?_push_of_some _ (Heap.get?_push_of_some _ (Heap.get?_push_of_some _ e))) ((hT.push _).push _) ⟨_, Heap.get?_push_of_some _ (Heap.get?_push_size _ rfl), rfl, rfl⟩ (Heap.get?_push_size _ rfl) ?_ ?_ ?_ ?_ ?_ h⟩
  · exact Nat.le_trans (Nat.le_succ _) (Nat.le_of_eq z1.symm)
  · exact Nat.le_trans (Nat.le_trans (Nat.le_succ _) (Nat.le_succ _)) (Nat.le_of_eq z2.symm)
  · exact fun z => Nat.succ_ne_self _ (z1.symm.trans z)
  · exact fun z => Nat.succ_ne_self _ ((z2.symm.trans z).trans z1)
  · exact fun z => absurd (z2.symm.trans z) (Nat.ne_of_gt (Nat.lt_succ_of_lt (Nat.lt_succ_self _)))
end TF
namespace TF
open PySem PySem.Spec L2
open PyProof.Rows hiding St RelV
instance (p q : Sq) : Decidable (sqLt p q) := by unfold sqLt; exact inferInstance
def minSq (x y : Sq) : Sq := if sqLt y x then y else x
def maxSq (x y : Sq) : Sq := if sqLt x y then y else x
theorem gt2_sq (x y : Sq) : gt2 x.1 x.2 y.1 y.2 = decide (sqLt y x) := by
  rw [Bool.eq_iff_iff, decide_eq_true_eq]
  unfold gt2
  split
  · rename_i h
    have := eq_of_beq h
    rw [decide_eq_true_eq]
    unfold sqLt
    omega
  · rename_i h
    have : ¬ x.1 = y.1 := fun z => h (by rw [z]; exact beq_self_eq_true _)
    rw [decide_eq_true_eq]
    unfold sqLt
    omega
theorem gtAt_sq {s : Shared} {A : Around} {x y : Sq} {u v : Value} (hx : AtH s.heap (sq x) u) (hy : AtH s.heap (sq y) v) (hu : A.units + 9 < cLine) (prog : Program) (w : World) (E Q : Value → Shared → Prop) (q : Q (.bool (decide (sqLt y x))) s) : wpAny (model prog w) A (richCompare .Gt u v) Q E s := by
  rw [← gt2_sq] at q
  unfold sq at hx hy
  rw [AtH] at hx hy
  obtain ⟨a, is, rfl, ti, rl⟩ := hx
  obtain ⟨b, js, rfl, tj, rm⟩ := hy
  have e1 : ∃ t1 t2, is = [.int x.1 t1, .int x.2 t2] := by
    simp only [AtL, AtH] at rl
    obtain ⟨v1, r1, rfl, ⟨t1, rfl⟩, v2, r2, rfl, ⟨t2, rfl⟩, rfl⟩ := rl
    exact ⟨t1, t2, rfl⟩
  have e2 : ∃ t1 t2, js = [.int y.1 t1, .int y.2 t2] := by
    simp only [AtL, AtH] at rm
    obtain ⟨v1, r1, rfl, ⟨t1, rfl⟩, v2, r2, rfl, ⟨t2, rfl⟩, rfl⟩ := rm
    exact ⟨t1, t2, rfl⟩
  obtain ⟨t1, t2, rfl⟩ := e1
  obtain ⟨u1, u2, rfl⟩ := e2
  obtain ⟨⟨cls, dd, data, sl⟩, ho1, hc, n1, hd⟩ := id ti
  obtain ⟨⟨cls2, dd2, data2, sl2⟩, ho2, hc2, n2, hd2⟩ := id tj
  simp only at hc hd hc2 hd2
  subst hc hd hc2 hd2
  have hu2 : A.in1.units + 0 < cLine := by show A.units + 1 + 0 < cLine; omega
  have q1 := (eqAt_D (A := A.in1) (s := s) 0 (d := .int x.1) (e := .int y.1) rfl rfl (by rw [AtH]; exact ⟨t1, rfl⟩) (by rw [AtH]; exact ⟨u1, rfl⟩) hu2).1
  have q2 := (eqAt_D (A := A.in1) (s := s) 0 (d := .int x.2) (e := .int y.2) rfl rfl (by rw [AtH]; exact ⟨t2, rfl⟩) (by rw [AtH]; exact ⟨u2, rfl⟩) hu2).1
  simp only [eqD] at q1 q2
  exact richCompare_meets_room (op := .Gt) ⟨_, ho1, rfl⟩ ⟨_, ho2, rfl⟩ PySem.F.slot_tuple_gt PySem.F.entry_tuple_gt (PySem.F.args_tuple_gt_2 _ _) (tuple_gt_2 a b x.1 x.2 y.1 y.2 t1 t2 u1 u2 n1 n2 dd dd2 sl sl2)
    ⟨q1, q2, ho1, ho2, ⟨(fun x => nomatch x), q⟩⟩ (by omega)
section
variable {X : Cx} {ρ : Rho} {G : Gs} {e a b c : Expr} {d d1 d2 : Dat} {l : List Dat} {pos : Pos} {x y : Sq}
theorem call_minSq (hc : X.calm = true) (hu : X.A.units + 20 < cLine) (x y : Sq) : CallR X (.builtin "min") (fun xs H Q => ∃ u v, xs = [u, v] ∧ Rep X.K H (sq x) u ∧ Rep X.K H (sq y) v ∧ Q (if decide (sqLt y x) then v else u) H) := by
  intro pins s σ H xs us Q I r h
  obtain ⟨u, v, rfl, hx, hy, q⟩ := h
  obtain ⟨a, b, rfl, ra, rb⟩ := vals2 r
  refine min_two (I.ok.hd hc) (decide (sqLt y x)) (fun h' tk Q' E' k q' => ?_) (fun h' tk k => ⟨_, H, I.kept k, ?_, q⟩)
  · have I' := I.kept (t' := tk) k
    have := ltAt_D (A := X.A.in1) (s := { s with heap := h', toks := tk }) true 9 (d := sq y) (e := sq x) rfl (plain_sq y 8) (plain_sq x 8) (hy.at I' (plain_sq y 8) rb) (hx.at I' (plain_sq x 8) ra) (by show X.A.units + 1 + 9 < cLine; omega) X.prog X.w E' Q'
    rw [cmp_sq] at this
    exact this q'
  · cases decide (sqLt y x) with
    | true => exact rb
    | false => exact ra
theorem call_maxSq (hc : X.calm = true) (hu : X.A.units + 20 < cLine) (x y : Sq) : CallR X (.builtin "max") (fun xs H Q => ∃ u v, xs = [u, v] ∧ Rep X.K H (sq x) u ∧ Rep X.K H (sq y) v ∧ Q (if decide (sqLt x y) then v else u) H) := by
  intro pins s σ H xs us Q I r h
  obtain ⟨u, v, rfl, hx, hy, q⟩ := h
  obtain ⟨a, b, rfl, ra, rb⟩ := vals2 r
  refine max_two (I.ok.hd hc) (decide (sqLt x y)) (fun h' tk Q' E' k q' => ?_) (fun h' tk k => ⟨_, H, I.kept k, ?_, q⟩)
  · have I' := I.kept (t' := tk) k
    exact gtAt_sq (A := X.A.in1) (s := { s with heap := h', toks := tk }) (hy.at I' (plain_sq y 8) rb) (hx.at I' (plain_sq x 8) ra) (by show X.A.units + 1 + 9 < cLine; omega) X.prog X.w E' Q' q'
  · cases decide (sqLt x y) with
    | true => exact rb
    | false => exact ra
theorem px_minSq {pp : Pos} (hc : X.calm = true) (hu : X.A.units + 20 < cLine) (hm : X.mg "min" = none) (ha : PX X ρ G a (sq x)) (hb : PX X ρ G b (sq y)) (hg : Gl X "min" := by rfl) (he : starEach [a, b] X.env = (false, eval a X.env) :: starEach [b] X.env := by rfl) (he2 : starEach [b] X.env = (false, eval b X.env) :: starEach [] X.env := by rfl)
    (hpl : (backTo pos (starEach [b] X.env)).any (·.1) = false := by rfl) : PX X ρ G (.Call (.Name "min" pp) [a, b] [] pos) (sq (minSq x y)) :=
  px_call2 (call_minSq hc hu x y) hg hm (by decide +kernel) ha hb (fun H u v Q o rx ry k => by
    refine ⟨u, v, rfl, rx.same hid_le, ry.same hid_le, k _ _ (po1' o ?_)⟩
    unfold minSq
    by_cases h : sqLt y x
    · rw [if_pos h, if_pos (decide_eq_true h)]; exact ry
    · rw [if_neg h, if_neg (by simpa using h)]; exact rx) (he := he) (he2 := he2) (hpl := hpl)
theorem px_maxSq {pp : Pos} (hc : X.calm = true) (hu : X.A.units + 20 < cLine) (hm : X.mg "max" = none) (ha : PX X ρ G a (sq x)) (hb : PX X ρ G b (sq y)) (hg : Gl X "max" := by rfl) (he : starEach [a, b] X.env = (false, eval a X.env) :: starEach [b] X.env := by rfl) (he2 : starEach [b] X.env = (false, eval b X.env) :: starEach [] X.env := by rfl)
    (hpl : (backTo pos (starEach [b] X.env)).any (·.1) = false := by rfl) : PX X ρ G (.Call (.Name "max" pp) [a, b] [] pos) (sq (maxSq x y)) :=
  px_call2 (call_maxSq hc hu x y) hg hm (by decide +kernel) ha hb (fun H u v Q o rx ry k => by
    refine ⟨u, v, rfl, rx.same hid_le, ry.same hid_le, k _ _ (po1' o ?_)⟩
    unfold maxSq
    by_cases h : sqLt x y
    · rw [if_pos h, if_pos (decide_eq_true h)]; exact ry
    · rw [if_neg h, if_neg (by simpa using h)]; exact rx) (he := he) (he2 := he2) (hpl := hpl)
theorem all_range : ∀ (bs : List Bool), ((List.range bs.length).all fun i => bs.getD i true) = bs.all id
  | [] => rfl
  | b :: bs => by
    rw [List.length_cons, List.range_succ_eq_map, List.all_cons, List.all_map, List.all_cons, ← all_range bs]
    rfl
theorem call_allL (hc : X.calm = true) : CallR X (.builtin "all") (fun xs H Q => ∃ (p : Addr) (bs : List Bool), xs = [.ref p] ∧ SqL X.K H p (bs.map V.bl) ∧ Q (.bl (bs.all id)) H) := by
  intro pins s σ H xs us Q I r h
  obtain ⟨p, bs, rfl, hq, q⟩ := h
  obtain ⟨u, rfl, rx⟩ := vals1 r
  cases rx
  obtain ⟨its, rv, pl, hz⟩ := I.list hq
  have hl := pl.isList
  have hlt := Heap.lt_size (hl.choose_spec.1)
  have ne : p ≠ s.heap.objs.size := Nat.ne_of_lt hlt
  refine call_all_walk (wpAny_pyIter_list hl ?_)
  refine ⟨_, _, _, _, _, _, fun i => bs.getD i true, rfl, Walks.list (A := X.A.in1) (I.ok.hd hc) _ p ne its.toArray, ⟨⟨_, Heap.get?_push_size _ rfl, rfl, rfl⟩, hl.push _⟩, ?_, fun h' tk hk => ?_⟩
  · intro i v s' Q' E' hP hQ
    have h1 : its[i]? = some v := by simpa using hP
    have hi : i < its.length := (List.getElem?_eq_some_iff.mp h1).1
    have hl2 := rv.length
    rw [List.length_map] at hl2
    obtain ⟨x, hx⟩ : ∃ x, bs[i]? = some x := ⟨bs[i]'(by omega), List.getElem?_eq_getElem (by omega)⟩
    have h2 : (bs.map V.bl)[i]? = some (V.bl x) := by rw [List.getElem?_map, hx]; rfl
    obtain ⟨v', g1, g2⟩ := rv.get h2
    rw [h1] at g1
    cases g1
    cases g2
    have hQ : Q' (bs.getD i true) s' := hQ
    rw [List.getD_eq_getElem?_getD, hx] at hQ
    exact wpAny_truthy_bool hQ
  · have hn : its.toArray.size = bs.length := by have := rv.length; rw [List.length_map] at this; rw [List.size_toArray, ← this]
    rw [hn, all_range]
    refine ⟨.bl _, H, I.kept (fun b o e => hk b o (fun hm => ?_) (Heap.get?_push_of_some _ e)), rfl, q⟩
    have h1 := Heap.lt_size e
    rw [List.mem_singleton.mp hm] at h1
    exact Nat.lt_irrefl _ h1
theorem repL_bl {K : PySem.W.Frag} {H : Hp} : ∀ {bs : List Bool} {vs : List V}, RepL K H (bs.map .bl) vs → vs = bs.map V.bl
  | [], vs, r => by
    have := r.length
    exact List.eq_nil_of_length_eq_zero (by simpa using this)
  | b :: bs, vs, r => by
    rw [List.map_cons, RepL] at r
    obtain ⟨v, r', rfl, r1, r2⟩ := r
    rw [Rep] at r1
    rw [r1, repL_bl r2]
    rfl
theorem px_all {bs : List Bool} {pp : Pos} (hc : X.calm = true) (hm : X.mg "all" = none) (ha : PX X ρ G a (.lst (bs.map .bl))) (hg : Gl X "all" := by rfl) (he : starEach [a] X.env = (false, eval a X.env) :: starEach [] X.env := by rfl) : PX X ρ G (.Call (.Name "all" pp) [a] [] pos) (.bl (bs.all id)) :=
  px_call1 (call_allL hc) hg hm (by decide +kernel) ha (fun H x Q o r k => by
    rw [Rep] at r
    obtain ⟨q, vs, e, h1, r1⟩ := r
    exact ⟨q, bs, by rw [e], by rw [← repL_bl r1]; exact SqL.of (hid_le _ _ h1), k _ _ (po1' o rfl)⟩) (he := he)
end
def Itr2 (lo : Int) (n : Nat) : It := ⟨fun i _ => i < n, fun i H x H' => H' = H ∧ x = .int (lo + i * 2), fun i _ => n ≤ i⟩
theorem turn_range2 {P : Program} {w : World} {K : PySem.W.Frag} {tg : Expr} (it : Addr) (lo : Int) (n : Nat) : Turn P w K tg (Itr2 lo n) [it] it (fun i h => IsRangeIter h it (lo + (i : Nat) * 2) ((n : Int) - (i : Nat)) 2) where
  mem := by simp
  obj := fun i h st b hb => by
    have e : b = it := by simpa using hb
    subst e
    exact ⟨_, st, fun v z => by
      have z' : Data.fields _ = Data.cell v := z
      cases z'⟩
  keep := fun i h h' st k => k it (by simp) _ st
  item := by
    intro X hP hw hK hc i pins s σ H E I hf st hg
    subst hP hw hK
    obtain ⟨f0, f1, f2, f3, f4, f5⟩ := hf it (by simp)
    have W := Walks.range (prog := X.prog) (w := X.w) (I.ok.hd hc) it lo 2 n
    refine W.item i s _ _ hg st fun v h' tk hv st' kk => ?_
    obtain ⟨t, rfl⟩ := hv
    have I1 : Inv X pins σ H { s with heap := h', toks := tk } := I.turned (fun b o hb e => kk b o (by simpa using hb) e) f0 f1 f3 f4 f5
    exact ⟨_, rfl, go_of (s := { s with heap := h', toks := tk }) (n := "range_iterator") st' rfl rfl (by decide) ⟨.int (lo + i * 2), H, I1, ⟨t, rfl⟩, ⟨rfl, rfl⟩, st', fun b hb => (hf b hb).1⟩⟩
  done := by
    intro X hP hw hK hc i pins s σ H E I hf st hg
    subst hP hw hK
    obtain ⟨f0, f1, f2, f3, f4, f5⟩ := hf it (by simp)
    exact wpAny_pyNext_range_end (I.ok.hd hc) st (by have : n ≤ i := hg; omega) fun h' eb => ⟨rfl, I.turned (t' := s.toks) (fun b o hb e => eb b o hb e) f0 f1 f3 f4 f5⟩
  self := fun _ _ _ _ _ st h => wpAny_pyIter_rangeiter st h
theorem size_two {lo hi : Int} {n : Nat} (h : lo ≤ hi) (hn : (n : Int) = (hi - lo + 1) / 2) : Builtin.Range.rangeSize lo hi 2 = n := by
  unfold Builtin.Range.rangeSize
  simp only [show (2 : Int) > 0 by decide, if_true]
  split <;> omega
theorem small_two {lo hi : Int} {n : Nat} (h0 : 0 ≤ lo) (h : lo ≤ hi) (h1 : hi ≤ 100000) (hn : (n : Int) = (hi - lo + 1) / 2) : Builtin.Range.small lo hi 2 = true := by
  unfold Builtin.Range.small
  rw [size_two h hn]
  simp only [Builtin.Range.rangeFitsLong, Bool.and_eq_true, Bool.or_eq_true, decide_eq_true_eq, beq_iff_eq, show (2 : Int) > 0 by decide, if_true]
  omega
section
variable {X : Cx} {ρ : Rho} {G : Gs} {a b c : Expr} {pos : Pos}
theorem range_it2 {tg : Expr} {pins : List (Addr × Obj)} {σ : St} {H : Hp} {s : Shared} {R : It → Hp → Prop} {E : Value → Shared → Prop} {lo hi : Int} {n : Nat} {t u v : Tok} {tk : Nat} (I : Inv X pins σ H s) (h0 : 0 ≤ lo) (h : lo ≤ hi) (h1 : hi ≤ 100000) (hn : (n : Int) = (hi - lo + 1) / 2)
    (q : R (Itr2 lo n) H) : wpAny (model X.prog X.w) X.A (pyIter (.ref s.heap.objs.size)) (PIE X pins σ tg R) E { s with heap := s.heap.push { cls := .type "range", data := .fields #[.int lo t, .int hi u, .int 2 v] }, toks := tk } := by
  refine wpAny_pyIter_range (IsRange.new ..) (small_two h0 h h1 hn) ?_
  have I1 : Inv X pins σ H { s with heap := s.heap.push { cls := .type "range", data := .fields #[.int lo t, .int hi u, .int 2 v] }, toks := tk } := I.kept fun b o e => Heap.get?_push_of_some _ e
  refine ⟨(s.heap.push { cls := .type "range", data := .fields #[.int lo t, .int hi u, .int 2 v] }).objs.size, [(s.heap.push { cls := .type "range", data := .fields #[.int lo t, .int hi u, .int 2 v] }).objs.size], _, _, H, rfl,
    I1.kept (t' := tk) fun b o e => Heap.get?_push_of_some _ e, turn_range2 _ lo n, ?_, fun b hb => ?_, q⟩
  · have e1 : lo + ((0 : Nat) : Int) * 2 = lo := by simp
    have e2 : (n : Int) - ((0 : Nat) : Int) = Builtin.Range.rangeSize lo hi 2 := by rw [size_two h hn]; simp
    show IsRangeIter _ _ (lo + ((0 : Nat) : Int) * 2) ((n : Int) - ((0 : Nat) : Int)) 2
    rw [e1, e2]
    exact Heap.get?_push_size _ rfl
  · have e : b = (s.heap.push { cls := .type "range", data := .fields #[.int lo t, .int hi u, .int 2 v] }).objs.size := by simpa using hb
    subst e
    exact I1.fpOk (Nat.le_refl _) (I1.hok.fresh (Nat.le_refl _))
def rangeD2 (lo : Int) (n : Nat) : List Dat := (List.range n).map fun i => .int (lo + (i : Nat) * 2)
theorem wk_rng2 {K : PySem.W.Frag} {H : Hp} {lo : Int} {n : Nat} : Wk K (Itr2 lo n) H G (rangeD2 lo n) := by
  intro H' G' e
  refine ⟨fun i d hd => ?_, by show n ≤ (rangeD2 lo n).length; simp [rangeD2]⟩
  have hi : i < n := by
    have := (List.getElem?_eq_some_iff.mp hd).1
    simpa [rangeD2] using this
  refine ⟨hi, fun x H'' ⟨e1, e2⟩ => ?_⟩
  subst e1; subst e2
  refine ⟨Ext.refl, fun o => o, fun _ => ?_⟩
  have : (rangeD2 lo n)[i]? = some (.int (lo + i * 2)) := by simp [rangeD2, hi]
  rw [this] at hd
  cases hd
  rfl
theorem rangeD2_get {lo : Int} {n i : Nat} {d : Dat} (h : (rangeD2 lo n)[i]? = some d) : i < n ∧ d = .int (lo + (i : Nat) * 2) := by
  have hi : i < n := by
    have := (List.getElem?_eq_some_iff.mp h).1
    simpa [rangeD2] using this
  refine ⟨hi, ?_⟩
  have : (rangeD2 lo n)[i]? = some (.int (lo + i * 2)) := by simp [rangeD2, hi]
  rw [this] at h
  cases h
  rfl
theorem rangeD2_len (lo : Int) (n : Nat) : (rangeD2 lo n).length = n := by simp [rangeD2]
def iRng3 (ta : TA) : TI := fun σ H R => ta σ H fun vs H1 => ∃ (i j : Int) (n : Nat), vs = [.int i, .int j, .int 2] ∧ (0 ≤ i ∧ i ≤ j ∧ j ≤ 100000 ∧ (n : Int) = (j - i + 1) / 2) ∧ R (Itr2 i n) H1
theorem pi_range3 {tg : Expr} {ta : TA} {p pos : Pos} (hg : Gl X "range") (hm : X.mg "range" = none) (ha : PA X [a, b, c] ta) (hs : starEach [a, b, c] X.env = (false, eval a X.env) :: starEach [b, c] X.env) (hs2 : (backTo pos (starEach [b, c] X.env)).any (·.1) = false) :
    PI X tg (.Call (.Name "range" p) [a, b, c] [] pos) (iRng3 ta) := by
  intro pins s σ H R I h
  refine Call_ (ld_blt I hg hm boot_range (PyProof.Rows.callWith_type1 (thn (ha pos pins s σ H _ I h) fun us s1 ⟨vs, H1, I1, r1, q1⟩ => ?_) hs hs2))
  obtain ⟨i, j, n, e, ⟨q1, q2, q3, q4⟩, q⟩ := q1
  subst e
  cases r1 with
  | cons r rr =>
    cases rr with
    | cons r' rr =>
      cases rr with
      | cons r'' rr =>
        cases rr
        obtain ⟨t, rfl⟩ := r
        obtain ⟨t', rfl⟩ := r'
        obtain ⟨t'', rfl⟩ := r''
        exact call_range_3 (by decide) (range_it2 I1 q1 q2 q3 q4 q) (Or.inl (PyProof.noPylong_small (by omega)))
theorem wi_range3 {tg : Expr} {Q : List Dat → Gs → Prop} {i j : Int} (n : Nat) {p : Pos} (hm : X.mg "range" = none) (ha : PX X ρ G a (.int i)) (hb : PX X ρ G b (.int j)) (hc : PX X ρ G c (.int 2)) (h0 : 0 ≤ i ∧ i ≤ j ∧ j ≤ 100000 ∧ (n : Int) = (j - i + 1) / 2) (q : Q (rangeD2 i n) G) (hg : Gl X "range" := by rfl)
    (hs : starEach [a, b, c] X.env = (false, eval a X.env) :: starEach [b, c] X.env := by rfl) (hs1 : starEach [b, c] X.env = (false, eval b X.env) :: starEach [c] X.env := by rfl) (hs0 : starEach [c] X.env = (false, eval c X.env) :: starEach [] X.env := by rfl) (hs2 : (backTo pos (starEach [b, c] X.env)).any (·.1) = false := by rfl) : WI X ρ G tg (.Call (.Name "range" p) [a, b, c] [] pos) Q := fun pins s σ H I S =>
  pi_range3 hg hm (pa_cons pe_we (pa_cons pe_we (pa_cons pe_we pa_nil hs0) hs1) hs) hs hs2 pins s σ H _ I ⟨ρ, G, _, ha, S, fun x H1 ⟨_, _, e1, o1, r1, q1, q1'⟩ => by
    subst q1; subst q1'
    cases (show x = V.int i from r1)
    refine ⟨ρ, _, _, hb, S.ext e1 o1, fun y H2 ⟨_, _, e2, o2, r2, q2, q2'⟩ => ?_⟩
    subst q2; subst q2'
    cases (show y = V.int j from r2)
    refine ⟨ρ, _, _, hc, (S.ext e1 o1).ext e2 o2, fun z H3 ⟨_, _, e3, o3, r3, q3, q3'⟩ => ?_⟩
    subst q3; subst q3'
    cases (show z = V.int 2 from r3)
    exact ⟨i, j, n, rfl, h0, _, _, (e1.trans e2).trans e3, o3, wk_rng2, q⟩⟩
end
end TF
namespace TF
open PySem PySem.Spec L2
open PyProof.Rows hiding St RelV
def swapM (l A B : Lay) : Lay := TSt.sort ((l.filter fun s => !A.contains s) ++ B)
theorem fil_perm {α : Type} (p : α → Bool) (l : List α) : ((l.filter p) ++ (l.filter fun x => !p x)).Perm l := by
  induction l with
  | nil => exact .nil
  | cons a l ih =>
    rw [List.filter_cons, List.filter_cons]
    cases h : p a with
    | true => simpa using ih
    | false =>
      simp only [Bool.not_false, Bool.false_eq_true, if_false, if_true]
      exact List.perm_middle.trans (.cons _ ih)
theorem fil_in {l A : Lay} (hl : l.Nodup) (hA : A.Nodup) (sub : ∀ s ∈ A, s ∈ l) : (l.filter fun s => A.contains s).Perm A := by
  rw [List.perm_ext_iff_of_nodup (hl.filter _) hA]
  intro s
  simp only [List.mem_filter, List.contains_iff_mem]
  exact ⟨fun h => h.2, fun h => ⟨sub s h, h⟩⟩
theorem swap_pre {l A B : Lay} (hl : l.Nodup) (hA : A.Nodup) (sub : ∀ s ∈ A, s ∈ l) : (A ++ l.filter fun s => !A.contains s).Perm l :=
  ((fil_in hl hA sub).symm.append_right _).trans (fil_perm _ l)
structure Swap (l A B : Lay) : Prop where
  sub : ∀ s ∈ A, s ∈ l
  nA : A.Nodup
  nB : B.Nodup
  dis : ∀ s ∈ A, s ∉ B
  ok : ∀ s ∈ B, sqLt s.1 s.2 ∧ s.2 ∈ nbM s.1
  pm : (sqsOf B).Perm (sqsOf A)
theorem swap_lay {F : List Sq} {l A B : Lay} (nd : F.Nodup) (I : IsLay F l) (S : Swap l A B) : IsLay F (swapM l A B) := by
  refine Cov.lay ⟨fun s hs => ?_, ?_⟩ nd
  · rcases List.mem_append.mp hs with h | h
    · exact I.st s (List.mem_filter.mp h).1
    · exact S.ok s h
  · rw [sqs_app]
    refine (List.perm_append_comm.trans ?_).trans ((sqs_perm (swap_pre (B := B) (lay_nd I) S.nA S.sub)).trans I.pm)
    rw [sqs_app]
    exact S.pm.append_right _
theorem lay_dis {F : List Sq} {l : Lay} (nd : F.Nodup) (I : IsLay F l) {s t : Stone} (hs : s ∈ l) (ht : t ∈ l) {x : Sq} (h1 : x = s.1 ∨ x = s.2) (h2 : x = t.1 ∨ x = t.2) : s = t := by
  have n1 : (sqsOf l).Nodup := I.pm.nodup_iff.mpr nd
  have pw := sqs_nd n1
  by_cases e : s = t
  · exact e
  · exfalso
    have key : s.1 ≠ t.1 ∧ s.1 ≠ t.2 ∧ s.2 ≠ t.1 ∧ s.2 ≠ t.2 := by
      rw [List.pairwise_iff_getElem] at pw
      obtain ⟨i, hi, rfl⟩ := List.mem_iff_getElem.mp hs
      obtain ⟨j, hj, rfl⟩ := List.mem_iff_getElem.mp ht
      rcases Nat.lt_trichotomy i j with h | h | h
      · exact pw i j hi hj h
      · subst h; exact absurd rfl e
      · have z := pw j i hj hi h
        exact ⟨z.1.symm, z.2.2.1.symm, z.2.1.symm, z.2.2.2.symm⟩
    rcases h1 with rfl | rfl <;> rcases h2 with h | h
    · exact key.1 h
    · exact key.2.1 h
    · exact key.2.2.1 h
    · exact key.2.2.2 h
theorem swap_new {F : List Sq} {l A B : Lay} (nd : F.Nodup) (I : IsLay F l) (S : Swap l A B) : ∀ s ∈ B, s ∉ l := by
  intro s hs hl
  have h1 : s.1 ∈ sqsOf B := mem_sqs.mpr ⟨s, hs, .inl rfl⟩
  obtain ⟨a, ha, h2⟩ := mem_sqs.mp (S.pm.mem_iff.mp h1)
  have := lay_dis nd I hl (S.sub a ha) (.inl rfl) h2
  exact S.dis a ha (this ▸ hs)
theorem mem_swap {l A B : Lay} {s : Stone} : s ∈ swapM l A B ↔ (s ∈ l ∧ s ∉ A) ∨ s ∈ B := by
  unfold swapM
  rw [(TSt.sort_perm _).mem_iff, List.mem_append, List.mem_filter]
  simp
theorem Swap.back {F : List Sq} {l A B : Lay} (I : IsLay F l) (S : Swap l A B) : Swap (swapM l A B) B A :=
  ⟨fun s hs => mem_swap.mpr (.inr hs), S.nB, S.nA, fun s hb ha => S.dis s ha hb, fun s hs => I.st s (S.sub s hs), S.pm.symm⟩
theorem swap_back {F : List Sq} {l A B : Lay} (nd : F.Nodup) (I : IsLay F l) (S : Swap l A B) : swapM (swapM l A B) B A = l := by
  have J := swap_lay nd I S
  have J2 := swap_lay nd J (S.back I)
  refine J2.uniq I ?_
  have new := swap_new nd I S
  have p1 : ((swapM l A B).filter fun s => !B.contains s).Perm (l.filter fun s => !A.contains s) := by
    refine ((TSt.sort_perm _).filter _).trans ?_
    rw [List.filter_append]
    have e1 : (B.filter fun s => !B.contains s) = [] := List.filter_eq_nil_iff.mpr fun s hs => by simp [hs]
    have e2 : ((l.filter fun s => !A.contains s).filter fun s => !B.contains s) = l.filter fun s => !A.contains s := List.filter_eq_self.mpr fun s hs => by
      have : s ∉ B := fun hb => new s hb (List.mem_filter.mp hs).1
      simp [this]
    rw [e1, e2, List.append_nil]
  unfold swapM at p1 ⊢
  refine (TSt.sort_perm _).trans ((p1.append_right A).trans (List.perm_append_comm.trans (swap_pre (B := B) (lay_nd I) S.nA S.sub)))
def stM (x y : Sq) : Stone := (minSq x y, maxSq x y)
def prevR (ring : List Sq) (k : Nat) : Sq := if k = 0 then ring.getD (ring.length - 1) (0, 0) else ring.getD (k - 1) (0, 0)
def alongM (ring : List Sq) (b : Nat) : Lay := (List.range ((ring.length - b + 1) / 2)).map fun i => stM (prevR ring (b + 2 * i)) (ring.getD (b + 2 * i) (0, 0))
def otherM (l : Lay) (ring : List Sq) : Lay := if (alongM ring 1).all l.contains then swapM l (alongM ring 1) (alongM ring 0) else swapM l (alongM ring 0) (alongM ring 1)
theorem stM_lt {x y : Sq} (h : sqLt x y) : stM x y = (x, y) := by
  unfold stM minSq maxSq
  rw [if_pos h, if_neg fun h2 => sqLt_irrefl _ (sqLt_trans h h2)]
theorem stM_gt {x y : Sq} (h : sqLt y x) : stM x y = (y, x) := by
  unfold stM minSq maxSq
  rw [if_pos h, if_neg fun h2 => sqLt_irrefl _ (sqLt_trans h h2)]
theorem lay_in2 {F : List Sq} {l : Lay} (I : IsLay F l) {s : Stone} (hs : s ∈ l) : s.1 ∈ F ∧ s.2 ∈ F :=
  ⟨I.pm.mem_iff.mp (mem_sqs.mpr ⟨s, hs, .inl rfl⟩), I.pm.mem_iff.mp (mem_sqs.mpr ⟨s, hs, .inr rfl⟩)⟩
end TF
namespace TF
open PySem PySem.Spec L2
open PyProof.Rows hiding St RelV
def spAlong : SpD := fun ds G R => ∃ (ring : List Sq) (b : Nat), ds = [.lst (ring.map sq), .int b] ∧ b ≤ 1 ∧ 1 ≤ ring.length ∧ ring.length ≤ 1000 ∧ R (.lst ((alongM ring b).map stone)) G
def spHasAll : SpD := fun ds G R => ∃ l st : Lay, ds = [lay l, .lst (st.map stone)] ∧ st.length ≤ 1000 ∧ R (.bl (st.all l.contains)) G
def spOther : SpD := fun ds G R => ∃ (l : Lay) (ring : List Sq), ds = [lay l, .lst (ring.map sq)] ∧ 1 ≤ ring.length ∧ ring.length ≤ 1000 ∧ l.length ≤ 1000 ∧ R (lay (otherM l ring)) G
theorem atI_at {ring : List Sq} {k : Nat} (h : k < ring.length) : atI (ring.map sq) (k : Int) = some (sq (ring.getD k (0, 0))) := by
  refine atI_map sq (atI_nat ?_)
  rw [List.getD_eq_getElem?_getD, List.getElem?_eq_getElem h]
  rfl
theorem atI_prev {ring : List Sq} {k : Nat} (h : k < ring.length) : atI (ring.map sq) ((k : Int) - 1) = some (sq (prevR ring k)) := by
  unfold prevR
  by_cases h0 : k = 0
  · subst h0
    rw [if_pos rfl]
    refine atI_map sq ?_
    unfold atI ixN
    rw [if_neg (by omega), if_pos (by omega)]
    have e : (((0 : Nat) : Int) - 1 + (ring.length : Int)).toNat = ring.length - 1 := by omega
    have e2 : ring[ring.length - 1]? = some (ring.getD (ring.length - 1) (0, 0)) := by
      rw [List.getD_eq_getElem?_getD, List.getElem?_eq_getElem (by omega)]
      rfl
    show ring[_]? = _
    rw [e]
    exact e2
  · rw [if_neg h0]
    have e : ((k : Int) - 1) = ((k - 1 : Nat) : Int) := by omega
    rw [e]
    exact atI_at (by omega)
end TF
namespace TF
open PySem PySem.Spec L2
open PyProof.Rows hiding St RelV
structure Zt (h : Heap) (z TI TO i1 i2 l1 l2 : Addr) (f0 : Value) (k : Nat) (xs ys : Array Value) : Prop where
  hz : IsZip h z TI TO f0
  hI : IsPair h TI (.ref i1) (.ref i2)
  hO : ∃ a b, IsPair h TO a b
  h1 : h.IsTupleIter i1 l1 k
  h2 : h.IsTupleIter i2 l2 k
  t1 : h.IsTuple l1 xs
  t2 : h.IsTuple l2 ys
section
variable {prog : Program} {w : World} {A : Around} {E : Value → Shared → Prop} {s : Shared} {z TI TO i1 i2 l1 l2 : Addr} {k : Nat} {xs ys : Array Value} {x y : Value}
end
end TF
namespace TF
open PySem PySem.Spec L2
open PyProof.Rows hiding St RelV
abbrev zO (I O : Addr) : Obj := { cls := .type "zip", data := .fields #[.none, .bool false, .bool false, .ref I, .ref O] }
abbrev prO (a b : Value) : Obj := { cls := .type "tuple", data := .seq #[a, b] }
abbrev zq2 (h : Heap) (a b : Addr) : Heap := (h.push (tiO a)).push (tiO b)
abbrev zq3 (h : Heap) (a b : Addr) : Heap := (zq2 h a b).push (prO (.ref h.objs.size) (.ref (h.push (tiO a)).objs.size))
abbrev zq4 (h : Heap) (a b : Addr) : Heap := (zq3 h a b).push (prO .none .none)
abbrev zq5 (h : Heap) (a b : Addr) : Heap := (zq4 h a b).push (zO (zq2 h a b).objs.size (zq3 h a b).objs.size)
section
variable {prog : Program} {w : World} {A : Around} {E : Value → Shared → Prop} {s : Shared}
end
section
variable {X : Cx} {ρ : Rho} {G : Gs} {a b : Expr} {l m : List Dat} {pos p1 : Pos} {elts : List Expr} {x1 : Nat} {tpos : Pos}
end
end TF
namespace TF
open PySem PySem.Spec L2
open PyProof.Rows hiding St RelV
section
open AutoSeq1 (wpAny_loadPart')
end
section
variable {X : Cx} {ρ : Rho} {G : Gs} {e a b : Expr} {d d1 d2 : Dat} {l m : List Dat} {pos : Pos} {i j k : Int} {p : Addr} {D : DE} {RX : Value → Gs → Prop} {rest : List Stmt}
end
section
open AutoSeq1 (wpAny_loadPart')
theorem ext_T (l : Addr) (items : Array Value) (n : Nat) (b : Addr) (items2 : Array Value) (n2 : Nat) (dct : Option Addr) (sl : Array (Option Value)) (hs0 : ¬(!items.isEmpty && Builtin.List.listTooLong (items.size + items2.size)) = true) (hs1 : items.size ≤ sizeLine) (hs2 : items.size + items2.size ≤ sizeLine + 1) :
    Meets (Builtin.«list.extend» ⟨[.ref l, .ref b], []⟩) (fun _ R s => s.heap.get? l = some { cls := .type "list", dict := none, data := .seq items n, slots := #[] } ∧ s.heap.get? b = some { cls := .type "tuple", dict := dct, data := .seq items2 n2, slots := sl } ∧ R (.ok (.ret Value.none)) { s with heap := s.heap.update l (Obj.mapSeq fun x => x ++ items2), toks := s.toks }) :=
  .of_wp fun prog w A R s h => by
    obtain ⟨hp, g, d, tk, os⟩ := s
    obtain ⟨hl, hb, h⟩ := h
    have f1 := AutoSeq1.idx_int
    have f2 := AutoSeq1.sub_tuple_tuple
    have f3 := AutoSeq1.sub_list_list
    have f4 := AutoSeq1.sub_tuple_list
    have f5 := AutoSeq1.sub_list_tuple
    have hz' : (items ++ items2).size ≤ sizeLine + 1 := by rw [Array.size_append]; exact hs2
    wp_walk using (wpAny_updateSeq hl rfl (hz := hs1) (_hz' := hz')), wpAny_loadPart' hl, wpAny_loadPart' hb
    exact ⟨_, rfl, h⟩
end
section
variable {X : Cx} {ρ : Rho} {G : Gs} {e a : Expr} {l m : List Dat} {pos : Pos} {D : DE} {rest : List Stmt}
def rExtT (K : PySem.W.Frag) : V → List V → Hp → VK → Prop := fun x vs H Q => ∃ l b xs zs, x = .ref l ∧ vs = [.ref b] ∧ H l = some (.lst xs) ∧ SqT K H b zs ∧ xs.length + zs.length ≤ sizeLine ∧ Q .non (upd H l (.lst (xs ++ zs)))
theorem mt_extT : MtM X "list.extend" (rExtT X.K) := by
  intro pins s σ H x vs v us Q I rx rv h
  obtain ⟨l, b, xs, zs, rfl, rfl, hH, hB, hz, q⟩ := h
  cases rx
  obtain ⟨u, rfl, ru⟩ := rv.one
  cases ru
  obtain ⟨z, its, n, r, hl, e⟩ := I.lstM hH
  obtain ⟨its2, r2, p2, z2⟩ := I.tuple hB
  obtain ⟨⟨cls, dd, data, sl⟩, ho, hc, n2, hd⟩ := id p2
  simp only at hc hd
  subst hc hd
  have l2 := r2.length
  have hsz : its.toArray.size + its2.toArray.size ≤ sizeLine := by rw [List.size_toArray, List.size_toArray, ← hl, ← l2]; exact hz
  refine call_meets F.slot_list_extend ⟨_, e, rfl⟩ F.entry_list_extend (F.args_list_extend_2 _ _) (ext_T l its.toArray n b its2.toArray n2 dd sl (by rw [notLongL hsz, Bool.and_false]; exact Bool.false_ne_true) (by omega) (by omega)) ⟨e, ho, ?_⟩
  refine ⟨.non, _, I.lset (its' := its ++ its2) hH e (by simp) (r.append r2) ?_, rfl, q⟩
  rw [List.length_append]
  exact hz
theorem wss_extendT {p : Addr} {apos cpos : Pos} (hx : PX X ρ G a (.fn p)) (h : PX X ρ G e (.tup m)) (hG : G p = some (.lst l)) (hz : l.length + m.length ≤ sizeLine) (q : WSs X ρ (put G p (.lst (l ++ m))) rest D)
    (hbase : attributeBase a "extend" X.env (eval a X.env) = eval a X.env := by rfl) (hline : (apos.endLine == cpos.line) = true := by rfl) (he : starEach [e] X.env = (false, eval e X.env) :: starEach [] X.env := by rfl)
    (hfew : ((backTo cpos (starEach [e] X.env)).all (fun x => !x.1) && (backToKw cpos (keywordEach [] X.env)).all (fun x => x.1.isSome) && decide (([e] : List Expr).length + ([] : List Keyword).length + (if ([] : List Keyword).isEmpty then 0 else 1) < 30)) = true := by rfl)
    (hs : swapsWith (.Call (.Attribute a "extend" apos) [e] [] cpos) none pos.line X.env = pure false := by rfl) : WSs X ρ G (.Expr (.Call (.Attribute a "extend" apos) [e] [] cpos) pos :: rest) D :=
  wss_cons (ws_ps (ps_expr (pe_bm PySem.F.plainAttrs_list PySem.F.slot_list_extend PySem.F.type_list_extend mt_extT pe_we (pa_cons pe_we pa_nil he) hbase hfew hline he rfl) hs) fun σ H S => ⟨ρ, G, _, hx, S, fun x H1 ⟨_, _, e1, o1, r1, q1, q1'⟩ => by
    subst q1; subst q1'
    cases (show x = V.ref p from r1)
    obtain ⟨vs1, h1, _⟩ := o1 p _ hG
    refine ⟨.inl ⟨rfl, vs1, SqL.of h1⟩, ρ, _, _, h, S.ext e1 o1, fun y H2 ⟨_, _, e2, o2, r2, q2, q2'⟩ => ?_⟩
    subst q2; subst q2'
    obtain ⟨vs, h2, r3⟩ := o2 p _ hG
    rw [Rep] at r2
    obtain ⟨b, zs, rfl, h4, r4⟩ := r2
    refine ⟨p, b, vs, zs, rfl, rfl, h2, sqT_same hid_le h4, by rw [r3.length, r4.length]; exact hz, ?_⟩
    obtain ⟨E, O⟩ := own_set o2 hG (r3.append r4)
    exact ⟨ρ, _, (e1.trans e2).trans E, S.ext ((e1.trans e2).trans E) O, q⟩⟩)
end
end TF
namespace TF
open PySem PySem.Spec L2
open PyProof.Rows hiding St RelV
end TF
namespace TF
open PySem PySem.Spec L2
open PyProof.Rows hiding St RelV
section
variable {prog : Program} {w : World} {A : Around} {E : Value → Shared → Prop} {s : Shared}
end
section
variable {X : Cx} {ρ : Rho} {G : Gs} {a c : Expr} {l : List Dat} {pos p2 : Pos}
end
end TF
namespace TF
open PySem PySem.Spec L2
open PyProof.Rows hiding St RelV
def spCovered : SpD := fun ds G R => ∃ l : Lay, ds = [lay l] ∧ l.length ≤ 1000 ∧ R (.lst ((TSq.sort (sqsOf l)).map sq)) G
end TF
namespace TF
theorem leastN {P : Nat → Prop} (h : ∃ n, P n) : ∃ n, P n ∧ ∀ m, m < n → ¬ P m := by
  obtain ⟨n, hn⟩ := h
  induction n using Nat.strongRecOn with
  | ind n ih =>
    by_cases h : ∃ m, m < n ∧ P m
    · obtain ⟨m, hm, hp⟩ := h
      exact ih m hm hp
    · exact ⟨n, hn, fun m hm hp => h ⟨m, hm, hp⟩⟩
structure InvP {α : Type} (F : List α) (c : α → Bool) (p : α → α) : Prop where
  mem : ∀ x ∈ F, p x ∈ F
  inv : ∀ x ∈ F, p (p x) = x
  col : ∀ x ∈ F, c (p x) = !c x
section
variable {α : Type} [DecidableEq α] {F : List α} {c : α → Bool} {p q : α → α} {s : α}
def itG (p q : α → α) (s : α) : Nat → α
  | 0 => s
  | n + 1 => q (p (itG p q s n))
def itsG (p q : α → α) (s : α) (k : Nat) : List α := (List.range k).map (itG p q s)
def ringG (p q : α → α) (s : α) (k : Nat) : List α := (itsG p q s k).flatMap fun x => [x, p x]
structure Per (p q : α → α) (s : α) (k : Nat) : Prop where
  pos : 0 < k
  back : itG p q s k = s
  min : ∀ m, 0 < m → m < k → itG p q s m ≠ s
theorem it_mem (hp : InvP F c p) (hq : InvP F c q) (hs : s ∈ F) : ∀ n, itG p q s n ∈ F
  | 0 => hs
  | n + 1 => hq.mem _ (hp.mem _ (it_mem hp hq hs n))
theorem it_col (hp : InvP F c p) (hq : InvP F c q) (hs : s ∈ F) : ∀ n, c (itG p q s n) = c s
  | 0 => rfl
  | n + 1 => by
    have h := it_mem hp hq hs n
    show c (q (p (itG p q s n))) = c s
    rw [hq.col _ (hp.mem _ h), hp.col _ h, Bool.not_not, it_col hp hq hs n]
theorem it_pred (hp : InvP F c p) (hq : InvP F c q) (hs : s ∈ F) {i j : Nat} (e : itG p q s (i + 1) = itG p q s (j + 1)) : itG p q s i = itG p q s j := by
  have h1 := it_mem hp hq hs i
  have h2 := it_mem hp hq hs j
  have e1 : q (p (itG p q s i)) = q (p (itG p q s j)) := e
  have e2 := congrArg q e1
  rw [hq.inv _ (hp.mem _ h1), hq.inv _ (hp.mem _ h2)] at e2
  have e3 := congrArg p e2
  rwa [hp.inv _ h1, hp.inv _ h2] at e3
theorem it_sub (hp : InvP F c p) (hq : InvP F c q) (hs : s ∈ F) : ∀ (i d : Nat), itG p q s i = itG p q s (i + d) → itG p q s d = s
  | 0, d, e => by rw [Nat.zero_add] at e; exact e.symm
  | i + 1, d, e => it_sub hp hq hs i d (it_pred hp hq hs (by rw [e]; congr 1; omega))
theorem per_ex (hp : InvP F c p) (hq : InvP F c q) (hs : s ∈ F) : ∃ k, Per p q s k := by
  have h : ∃ k, 0 < k ∧ itG p q s k = s := by
    refine Classical.byContradiction fun no => ?_
    have nd : (itsG p q s (F.length + 1)).Nodup := by
      unfold itsG List.Nodup
      rw [List.pairwise_map]
      refine List.pairwise_lt_range.imp fun {i j} hij e => ?_
      refine no ⟨j - i, by omega, it_sub hp hq hs i (j - i) ?_⟩
      rw [e]; congr 1; omega
    have := nodup_le nd (m := F) fun x hx => by
      obtain ⟨i, _, rfl⟩ := List.mem_map.mp hx
      exact it_mem hp hq hs i
    unfold itsG at this
    rw [List.length_map, List.length_range] at this
    omega
  obtain ⟨k, ⟨h1, h2⟩, h3⟩ := leastN h
  exact ⟨k, h1, h2, fun m hm hk e => h3 m hk ⟨hm, e⟩⟩
theorem its_nd (hp : InvP F c p) (hq : InvP F c q) (hs : s ∈ F) {k : Nat} (hk : Per p q s k) : (itsG p q s k).Nodup := by
  have e : itsG p q s k = (List.range k).map (itG p q s) := rfl
  rw [e]
  unfold List.Nodup
  rw [List.pairwise_map]
  have pw : (List.range k).Pairwise fun a b => a < b ∧ b < k := by
    refine List.Pairwise.imp_of_mem (R := fun a b => a < b) (fun {a b} ha hb h => ⟨h, List.mem_range.mp hb⟩) List.pairwise_lt_range
  refine pw.imp fun {i j} hij e => ?_
  refine hk.min (j - i) (by omega) (by omega) (it_sub hp hq hs i (j - i) ?_)
  rw [e]; congr 1; omega
theorem mem_its {k : Nat} {x : α} : x ∈ itsG p q s k ↔ ∃ i, i < k ∧ itG p q s i = x := by
  unfold itsG
  simp only [List.mem_map, List.mem_range]
theorem its_sub (hp : InvP F c p) (hq : InvP F c q) (hs : s ∈ F) {k : Nat} {x : α} (h : x ∈ itsG p q s k) : x ∈ F ∧ c x = c s := by
  obtain ⟨i, _, rfl⟩ := mem_its.mp h
  exact ⟨it_mem hp hq hs i, it_col hp hq hs i⟩
theorem two_nd {p : α → α} (hp : InvP F c p) {b : Bool} : ∀ {l : List α}, l.Nodup → (∀ x ∈ l, x ∈ F ∧ c x = b) → (l.flatMap fun x => [x, p x]).Nodup
  | [], _, _ => .nil
  | a :: l, nd, h => by
    obtain ⟨n1, n2⟩ := List.nodup_cons.mp nd
    have ih := two_nd hp n2 fun x hx => h x (List.mem_cons_of_mem _ hx)
    obtain ⟨ha, ca⟩ := h a (List.mem_cons_self ..)
    have cpa := hp.col a ha
    have nop : a ≠ p a := fun e => by rw [← e] at cpa; cases hh : c a <;> rw [hh] at cpa <;> cases cpa
    have key : ∀ y, (y = a ∨ y = p a) → y ∉ l.flatMap fun x => [x, p x] := by
      intro y hy hm
      obtain ⟨x, hx, hx2⟩ := List.mem_flatMap.mp hm
      obtain ⟨hxF, cx⟩ := h x (List.mem_cons_of_mem _ hx)
      have cpx := hp.col x hxF
      have d : c a ≠ c (p x) := fun e => by rw [cpx, ca, cx] at e; cases b <;> cases e
      have d2 : c x ≠ c (p a) := fun e => by rw [cpa, ca, cx] at e; cases b <;> cases e
      simp only [List.mem_cons, List.not_mem_nil, or_false] at hx2
      rcases hy with rfl | rfl <;> rcases hx2 with e | e
      · exact n1 (e ▸ hx)
      · exact d (congrArg c e)
      · exact d2 (congrArg c e).symm
      · have := congrArg p e
        rw [hp.inv _ ha, hp.inv _ hxF] at this
        exact n1 (this ▸ hx)
    show (a :: p a :: l.flatMap fun x => [x, p x]).Nodup
    rw [List.nodup_cons, List.nodup_cons]
    refine ⟨?_, key _ (.inr rfl), ih⟩
    intro hm
    rcases List.mem_cons.mp hm with e | e
    · exact nop e
    · exact key _ (.inl rfl) e
theorem ring_nd (hp : InvP F c p) (hq : InvP F c q) (hs : s ∈ F) {k : Nat} (hk : Per p q s k) : (ringG p q s k).Nodup := two_nd hp (its_nd hp hq hs hk) fun _ h => its_sub hp hq hs h
theorem mem_ring {k : Nat} {x : α} : x ∈ ringG p q s k ↔ ∃ y ∈ itsG p q s k, x = y ∨ x = p y := by
  unfold ringG
  simp only [List.mem_flatMap, List.mem_cons, List.not_mem_nil, or_false]
theorem its_next {k : Nat} (hk : Per p q s k) {x : α} (h : x ∈ itsG p q s k) : q (p x) ∈ itsG p q s k := by
  obtain ⟨i, hi, rfl⟩ := mem_its.mp h
  rw [mem_its]
  by_cases e : i + 1 < k
  · exact ⟨i + 1, e, rfl⟩
  · refine ⟨0, hk.pos, ?_⟩
    have : i + 1 = k := by omega
    have h2 := hk.back
    rw [← this] at h2
    exact h2.symm
theorem its_prev (hp : InvP F c p) (hq : InvP F c q) (hs : s ∈ F) {k : Nat} (hk : Per p q s k) {x : α} (h : x ∈ itsG p q s k) : ∃ y ∈ itsG p q s k, q x = p y := by
  obtain ⟨i, hi, rfl⟩ := mem_its.mp h
  have hm := fun j => hp.mem _ (it_mem hp hq hs j)
  cases i with
  | succ j => exact ⟨itG p q s j, mem_its.mpr ⟨j, by omega, rfl⟩, hq.inv _ (hm j)⟩
  | zero =>
    obtain ⟨j, rfl⟩ : ∃ j, k = j + 1 := ⟨k - 1, by have := hk.pos; omega⟩
    refine ⟨itG p q s j, mem_its.mpr ⟨j, by omega, rfl⟩, ?_⟩
    have h2 : q (p (itG p q s j)) = s := hk.back
    have h3 := congrArg q h2
    rw [hq.inv _ (hm j)] at h3
    exact h3.symm
theorem ring_sub (hp : InvP F c p) (hq : InvP F c q) (hs : s ∈ F) {k : Nat} {x : α} (h : x ∈ ringG p q s k) : x ∈ F := by
  obtain ⟨y, hy, rfl | rfl⟩ := mem_ring.mp h
  · exact (its_sub hp hq hs hy).1
  · exact hp.mem _ (its_sub hp hq hs hy).1
theorem ring_p (hp : InvP F c p) (hq : InvP F c q) (hs : s ∈ F) {k : Nat} {x : α} (h : x ∈ ringG p q s k) : p x ∈ ringG p q s k := by
  obtain ⟨y, hy, rfl | rfl⟩ := mem_ring.mp h
  · exact mem_ring.mpr ⟨x, hy, .inr rfl⟩
  · rw [hp.inv _ (its_sub hp hq hs hy).1]
    exact mem_ring.mpr ⟨y, hy, .inl rfl⟩
theorem ring_q (hp : InvP F c p) (hq : InvP F c q) (hs : s ∈ F) {k : Nat} (hk : Per p q s k) {x : α} (h : x ∈ ringG p q s k) : q x ∈ ringG p q s k := by
  obtain ⟨y, hy, rfl | rfl⟩ := mem_ring.mp h
  · obtain ⟨z, hz, e⟩ := its_prev hp hq hs hk hy
    exact mem_ring.mpr ⟨z, hz, .inr e⟩
  · exact mem_ring.mpr ⟨_, its_next hk hy, .inl rfl⟩
theorem ring_q2 (hp : InvP F c p) (hq : InvP F c q) (hs : s ∈ F) {k : Nat} (hk : Per p q s k) {x : α} : x ∈ ringG p q s k ↔ ∃ y ∈ itsG p q s k, x = y ∨ x = q y := by
  rw [mem_ring]
  constructor
  · rintro ⟨y, hy, rfl | rfl⟩
    · exact ⟨x, hy, .inl rfl⟩
    · exact ⟨_, its_next hk hy, .inr (hq.inv _ (hp.mem _ (its_sub hp hq hs hy).1)).symm⟩
  · rintro ⟨y, hy, rfl | rfl⟩
    · exact ⟨x, hy, .inl rfl⟩
    · obtain ⟨z, hz, e⟩ := its_prev hp hq hs hk hy
      exact ⟨z, hz, .inr e⟩
theorem ring_off (hp : InvP F c p) (hq : InvP F c q) (hs : s ∈ F) {k : Nat} {S : List α} (cp : ∀ x ∈ S, p x ∈ S) (cq : ∀ x ∈ S, q x ∈ S) (hn : s ∉ S) {x : α} (h : x ∈ ringG p q s k) : x ∉ S := by
  have key : ∀ i, itG p q s i ∉ S := by
    intro i
    induction i with
    | zero => exact hn
    | succ i ih =>
      intro hm
      have hi := it_mem hp hq hs i
      have h1 := cq _ hm
      have e : q (itG p q s (i + 1)) = p (itG p q s i) := hq.inv _ (hp.mem _ hi)
      rw [e] at h1
      have h2 := cp _ h1
      rw [hp.inv _ hi] at h2
      exact ih h2
  obtain ⟨y, hy, e⟩ := mem_ring.mp h
  obtain ⟨i, _, rfl⟩ := mem_its.mp hy
  rcases e with rfl | rfl
  · exact key i
  · intro hm
    have := cp _ hm
    rw [hp.inv _ (it_mem hp hq hs i)] at this
    exact key i this
theorem ring_len (k : Nat) : (ringG p q s k).length = 2 * k := by
  unfold ringG itsG
  rw [List.length_flatMap, List.map_map]
  induction k with
  | zero => rfl
  | succ k ih =>
    rw [List.range_succ, List.map_append, List.sum_append, ih]
    show _ + ([2] : List Nat).sum = _
    simp
    omega
theorem ring_succ (k : Nat) : ringG p q s (k + 1) = ringG p q s k ++ [itG p q s k, p (itG p q s k)] := by
  unfold ringG itsG
  rw [List.range_succ, List.map_append, List.flatMap_append]
  rfl
theorem ring_at0 : ∀ {k i : Nat}, i < k → (ringG p q s k)[2 * i]? = some (itG p q s i)
  | 0, _, h => by omega
  | k + 1, i, h => by
    rw [ring_succ]
    by_cases e : i < k
    · rw [List.getElem?_append_left (by rw [ring_len]; omega)]
      exact ring_at0 e
    · have : i = k := by omega
      subst this
      rw [List.getElem?_append_right (by rw [ring_len]; omega), ring_len, Nat.sub_self]
      rfl
theorem ring_at1 : ∀ {k i : Nat}, i < k → (ringG p q s k)[2 * i + 1]? = some (p (itG p q s i))
  | 0, _, h => by omega
  | k + 1, i, h => by
    rw [ring_succ]
    by_cases e : i < k
    · rw [List.getElem?_append_left (by rw [ring_len]; omega)]
      exact ring_at1 e
    · have : i = k := by omega
      subst this
      rw [List.getElem?_append_right (by rw [ring_len]; omega), ring_len, show 2 * i + 1 - 2 * i = 1 by omega]
      rfl
theorem one_same (hp : InvP F c p) (hq : InvP F c q) (hs : s ∈ F) (hk : Per p q s 1) {x : α} (h : x ∈ ringG p q s 1) : p x = q x := by
  have hb : q (p s) = s := hk.back
  have e : p s = q s := by
    have := congrArg q hb
    rwa [hq.inv _ (hp.mem _ hs)] at this
  obtain ⟨y, hy, h2⟩ := mem_ring.mp h
  obtain ⟨i, hi, rfl⟩ := mem_its.mp hy
  have hi0 : i = 0 := by omega
  subst hi0
  rcases h2 with h2 | h2
  · rw [h2]; exact e
  · rw [h2]
    show p (p s) = q (p s)
    rw [hp.inv _ hs, hb]
theorem many_diff (hp : InvP F c p) (hq : InvP F c q) (hs : s ∈ F) {k : Nat} (hk : Per p q s k) (h1 : k ≠ 1) {x : α} (h : x ∈ itsG p q s k) : p x ≠ q x := by
  obtain ⟨i, hi, rfl⟩ := mem_its.mp h
  intro e
  have hi2 := it_mem hp hq hs i
  have e2 : itG p q s i = itG p q s (i + 1) := by
    have := congrArg q e
    rw [hq.inv _ hi2] at this
    exact this.symm
  have := it_sub hp hq hs i 1 e2
  have hpos := hk.pos
  exact hk.min 1 (by omega) (by omega) this
end
end TF
namespace TF
def colB (x : Sq) : Bool := (x.1 + x.2) % 2 == 0
theorem colB_nb {x y : Sq} (h : y ∈ nbM x) : colB y = !colB x := by
  obtain ⟨a, b⟩ := x
  simp only [nbM, List.mem_cons, List.not_mem_nil, or_false] at h
  unfold colB
  rw [Bool.eq_iff_iff]
  simp only [beq_iff_eq, Bool.not_eq_true', beq_eq_false_iff_ne, ne_eq]
  rcases h with rfl | rfl | rfl | rfl <;> simp only <;> omega
def pfM (l : Lay) (x : Sq) : Sq := match l.find? fun s => s.1 == x || s.2 == x with
  | some s => if s.1 = x then s.2 else s.1
  | none => x
section
variable {F : List Sq} {l m : Lay}
theorem pf_st (nd : F.Nodup) (I : IsLay F l) {s : Stone} (hs : s ∈ l) : pfM l s.1 = s.2 ∧ pfM l s.2 = s.1 := by
  have ne : s.1 ≠ s.2 := fun e => by have := (I.st s hs).1; rw [e] at this; exact sqLt_irrefl _ this
  have key : ∀ x, x = s.1 ∨ x = s.2 → l.find? (fun s => s.1 == x || s.2 == x) = some s := by
    intro x hx
    cases h : l.find? (fun s => s.1 == x || s.2 == x) with
    | none =>
      have := List.find?_eq_none.mp h s hs
      rcases hx with rfl | rfl <;> simp at this
    | some t =>
      have h1 := List.find?_some h
      have h2 := List.mem_of_find?_eq_some h
      have h3 : x = t.1 ∨ x = t.2 := by
        simp only [Bool.or_eq_true, beq_iff_eq] at h1
        rcases h1 with h1 | h1
        · exact .inl h1.symm
        · exact .inr h1.symm
      rw [lay_dis nd I h2 hs h3 hx]
  unfold pfM
  rw [key _ (.inl rfl), key _ (.inr rfl)]
  exact ⟨if_pos rfl, if_neg ne⟩
theorem stM_comm (x y : Sq) : stM x y = stM y x := by
  rcases sqLt_tri x y with h | h | h
  · rw [stM_lt h, stM_gt h]
  · rw [h]
  · rw [stM_lt h, stM_gt h]
def stP (p : Sq → Sq) (x : Sq) : Stone := stM x (p x)
theorem stM_has (x y : Sq) : (x = (stM x y).1 ∨ x = (stM x y).2) ∧ (y = (stM x y).1 ∨ y = (stM x y).2) := by
  rcases sqLt_tri x y with h | h | h
  · rw [stM_lt h]; exact ⟨.inl rfl, .inr rfl⟩
  · subst h
    unfold stM minSq maxSq
    simp
  · rw [stM_gt h]; exact ⟨.inr rfl, .inl rfl⟩
theorem stM_only {x y z : Sq} (h : z = (stM x y).1 ∨ z = (stM x y).2) : z = x ∨ z = y := by
  rcases sqLt_tri x y with h' | h' | h'
  · rw [stM_lt h'] at h; exact h
  · subst h'
    unfold stM minSq maxSq at h
    simp at h
    exact .inl h
  · rw [stM_gt h'] at h; exact h.symm
theorem pf_in (nd : F.Nodup) (I : IsLay F l) {x : Sq} (hx : x ∈ F) : stP (pfM l) x ∈ l := by
  obtain ⟨s, hs, h⟩ := mem_sqs.mp (I.pm.mem_iff.mpr hx)
  have lt := (I.st s hs).1
  have h2 := pf_st nd I hs
  unfold stP
  rcases h with rfl | rfl
  · rw [h2.1, stM_lt lt]; exact hs
  · rw [h2.2, stM_gt lt]; exact hs
theorem pf_inv (nd : F.Nodup) (I : IsLay F l) : InvP F colB (pfM l) := by
  have key : ∀ x ∈ F, ∃ s ∈ l, (x = s.1 ∨ x = s.2) := fun x hx => mem_sqs.mp (I.pm.mem_iff.mpr hx)
  refine ⟨fun x hx => ?_, fun x hx => ?_, fun x hx => ?_⟩ <;> obtain ⟨s, hs, h⟩ := key x hx <;> have h2 := pf_st nd I hs
  · rcases h with rfl | rfl
    · rw [h2.1]; exact (lay_in2 I hs).2
    · rw [h2.2]; exact (lay_in2 I hs).1
  · rcases h with rfl | rfl
    · rw [h2.1, h2.2]
    · rw [h2.2, h2.1]
  · have e := colB_nb (I.st s hs).2
    rcases h with rfl | rfl
    · rw [h2.1]; exact e
    · rw [h2.2, e, Bool.not_not]
theorem stP_eq {p q : Sq → Sq} (hp : InvP F colB p) (hq : InvP F colB q) {x y : Sq} (hx : x ∈ F) (hy : y ∈ F) (hc : colB x = colB y) (e : stP p x = stP q y) : x = y ∧ p x = q y := by
  have h1 := (stM_has x (p x)).1
  have h2 := (stM_has x (p x)).2
  have e' : stM x (p x) = stM y (q y) := e
  rw [e'] at h1 h2
  have d1 : x ≠ q y := fun h => by
    have := hq.col y hy
    rw [← h, hc] at this
    cases hh : colB y <;> rw [hh] at this <;> cases this
  have d2 : p x ≠ y := fun h => by
    have := hp.col x hx
    rw [h, hc] at this
    cases hh : colB y <;> rw [hh] at this <;> cases this
  exact ⟨(stM_only h1).resolve_right d1, (stM_only h2).resolve_left d2⟩
theorem sqs_stP (p : Sq → Sq) : ∀ L : List Sq, (sqsOf (L.map (stP p))).Perm (L.flatMap fun x => [x, p x])
  | [] => .nil
  | a :: L => by
    have ih := sqs_stP p L
    show ([(stP p a).1, (stP p a).2] ++ sqsOf (L.map (stP p))).Perm ([a, p a] ++ L.flatMap fun x => [x, p x])
    refine List.Perm.append ?_ ih
    unfold stP
    rcases sqLt_tri a (p a) with h | h | h
    · rw [stM_lt h]
    · rw [← h]
      unfold stM minSq maxSq
      simp
    · rw [stM_gt h]; exact .swap ..
theorem along_1 {p q : Sq → Sq} {s : Sq} {k : Nat} (hk : 0 < k) : alongM (ringG p q s k) 1 = (itsG p q s k).map (stP p) := by
  unfold alongM itsG
  rw [ring_len, show (2 * k - 1 + 1) / 2 = k by omega, List.map_map]
  refine List.map_congr_left fun i hi => ?_
  have hi' := List.mem_range.mp hi
  show stM (prevR _ (1 + 2 * i)) _ = stM (itG p q s i) (p (itG p q s i))
  unfold prevR
  rw [if_neg (by omega), show 1 + 2 * i - 1 = 2 * i by omega, show 1 + 2 * i = 2 * i + 1 by omega, List.getD_eq_getElem?_getD, List.getD_eq_getElem?_getD, ring_at0 hi', ring_at1 hi']
  rfl
theorem along_0 {c : Sq → Bool} {p q : Sq → Sq} {s : Sq} {k : Nat} (hp : InvP F c p) (hq : InvP F c q) (hs : s ∈ F) (hk : Per p q s k) : alongM (ringG p q s k) 0 = (itsG p q s k).map (stP q) := by
  unfold alongM itsG
  have hpos := hk.pos
  rw [ring_len, show (2 * k - 0 + 1) / 2 = k by omega, List.map_map]
  refine List.map_congr_left fun i hi => ?_
  have hi' := List.mem_range.mp hi
  show stM (prevR _ (0 + 2 * i)) _ = stM (itG p q s i) (q (itG p q s i))
  rw [Nat.zero_add, stM_comm]
  have e1 : (ringG p q s k).getD (2 * i) (0, 0) = itG p q s i := by rw [List.getD_eq_getElem?_getD, ring_at0 hi']; rfl
  have e2 : prevR (ringG p q s k) (2 * i) = q (itG p q s i) := by
    unfold prevR
    cases i with
    | zero =>
      rw [if_pos rfl, ring_len, List.getD_eq_getElem?_getD, show 2 * k - 1 = 2 * (k - 1) + 1 by omega, ring_at1 (by omega)]
      have h2 := hk.back
      rw [show k = (k - 1) + 1 by omega] at h2
      have h3 : q (p (itG p q s (k - 1))) = s := h2
      have h4 := congrArg q h3
      rw [hq.inv _ (hp.mem _ (it_mem hp hq hs _))] at h4
      exact h4
    | succ j =>
      rw [if_neg (by omega), List.getD_eq_getElem?_getD, show 2 * (j + 1) - 1 = 2 * j + 1 by omega, ring_at1 (by omega)]
      exact (hq.inv _ (hp.mem _ (it_mem hp hq hs _))).symm
  rw [e1, e2]
structure Told (F : List Sq) (l m : Lay) (r : List Sq) : Prop where
  ex : ∃ s k, s ∈ F ∧ Per (pfM l) (pfM m) s k ∧ 1 < k ∧ r = ringG (pfM l) (pfM m) s k ∧ ∀ y ∈ r, y = s ∨ sqLt s y
structure RingsOk (F : List Sq) (l m : Lay) (T : List (List Sq)) : Prop where
  told : ∀ r ∈ T, Told F l m r
  nd : T.flatten.Nodup
  up : (T.map fun r => r.getD 0 (0, 0)).Pairwise sqLt
  rest : ∀ x ∈ F, x ∉ T.flatten → pfM l x = pfM m x
theorem Told.sub (nd : F.Nodup) (I : IsLay F l) (J : IsLay F m) {r : List Sq} (h : Told F l m r) : ∀ x ∈ r, x ∈ F := by
  obtain ⟨s, k, hs, hk, _, rfl, _⟩ := h.ex
  exact fun x hx => ring_sub (pf_inv nd I) (pf_inv nd J) hs hx
theorem ring_swap (nd : F.Nodup) (I : IsLay F l) (J : IsLay F m) {s : Sq} {k : Nat} (hs : s ∈ F) (hk : Per (pfM l) (pfM m) s k) (h1 : 1 < k) {n : Lay} (sub : ∀ x ∈ itsG (pfM l) (pfM m) s k, stP (pfM l) x ∈ n) : Swap n ((itsG (pfM l) (pfM m) s k).map (stP (pfM l))) ((itsG (pfM l) (pfM m) s k).map (stP (pfM m))) := by
  have hp := pf_inv nd I
  have hq := pf_inv nd J
  have ind := its_nd hp hq hs hk
  have isub := fun {x} h => its_sub hp hq hs (k := k) (x := x) h
  have inj : ∀ {r : Sq → Sq}, InvP F colB r → ((itsG (pfM l) (pfM m) s k).map (stP r)).Nodup := fun {r} hr => by
    unfold List.Nodup
    rw [List.pairwise_map]
    refine List.Pairwise.imp_of_mem (fun {a b} ha hb h e => ?_) ind
    exact h (stP_eq hr hr (isub ha).1 (isub hb).1 ((isub ha).2.trans (isub hb).2.symm) e).1
  refine ⟨fun t ht => ?_, inj hp, inj hq, fun t ht ht2 => ?_, fun t ht => ?_, ?_⟩
  · obtain ⟨x, hx, rfl⟩ := List.mem_map.mp ht
    exact sub x hx
  · obtain ⟨x, hx, rfl⟩ := List.mem_map.mp ht
    obtain ⟨y, hy, e⟩ := List.mem_map.mp ht2
    have := stP_eq hp hq (isub hx).1 (isub hy).1 ((isub hx).2.trans (isub hy).2.symm) e.symm
    obtain ⟨rfl, e2⟩ := this
    exact many_diff hp hq hs hk (by omega) hx e2
  · obtain ⟨x, hx, rfl⟩ := List.mem_map.mp ht
    exact J.st _ (pf_in nd J (isub hx).1)
  · refine (sqs_stP _ _).trans (List.Perm.trans ?_ (sqs_stP _ _).symm)
    rw [List.perm_ext_iff_of_nodup (two_nd hq ind fun x hx => isub hx) (two_nd hp ind fun x hx => isub hx)]
    intro x
    have e1 := ring_q2 hp hq hs hk (x := x)
    have e2 := mem_ring (p := pfM l) (q := pfM m) (s := s) (k := k) (x := x)
    simp only [List.mem_flatMap, List.mem_cons, List.not_mem_nil, or_false]
    exact e1.symm.trans e2
structure Half (F : List Sq) (l m : Lay) (S : List Sq) (n : Lay) : Prop where
  lay : IsLay F n
  new : ∀ x ∈ F, x ∈ S → stP (pfM m) x ∈ n
  old : ∀ x ∈ F, x ∉ S → stP (pfM l) x ∈ n
theorem half_ext (nd : F.Nodup) (I : IsLay F l) {n : Lay} (J : IsLay F n) (h : ∀ x ∈ F, stP (pfM l) x ∈ n) : n = l := by
  refine J.uniq I ((List.perm_ext_iff_of_nodup (lay_nd J) (lay_nd I)).mpr fun t => ⟨fun ht => ?_, fun ht => ?_⟩)
  · have hF := (lay_in2 J ht).1
    have h2 := h t.1 hF
    have e := lay_dis nd J ht h2 (.inl rfl) (stM_has t.1 (pfM l t.1)).1
    rw [e]
    exact pf_in nd I hF
  · have hF := (lay_in2 I ht).1
    have h2 := h t.1 hF
    have e : stP (pfM l) t.1 = t := by
      unfold stP
      rw [(pf_st nd I ht).1, stM_lt (I.st t ht).1]
    rwa [e] at h2
theorem half0 (nd : F.Nodup) (I : IsLay F l) : Half F l m [] l := ⟨I, (fun _ _ h => nomatch h), fun x hx _ => pf_in nd I hx⟩
theorem half_end (nd : F.Nodup) (J : IsLay F m) {T : List (List Sq)} {n : Lay} (H : Half F l m T.flatten n) (rest : ∀ x ∈ F, x ∉ T.flatten → pfM l x = pfM m x) : n = m := by
  refine half_ext nd J H.lay fun x hx => ?_
  by_cases h : x ∈ T.flatten
  · exact H.new x hx h
  · have := H.old x hx h
    unfold stP at this ⊢
    rwa [rest x hx h] at this
theorem half_step (nd : F.Nodup) (I : IsLay F l) (J : IsLay F m) {r S : List Sq} {n : Lay} (H : Half F l m S n) (hr : Told F l m r) (off : ∀ x ∈ r, x ∉ S) : Half F l m (S ++ r) (otherM n r) ∧ otherM (otherM n r) r = n := by
  obtain ⟨s, k, hs, hk, h1, rfl, _⟩ := hr.ex
  have hp := pf_inv nd I
  have hq := pf_inv nd J
  have a1 := along_1 (p := pfM l) (q := pfM m) (s := s) hk.pos
  have a0 := along_0 hp hq hs hk
  have isub := fun {x} h => its_sub hp hq hs (k := k) (x := x) h
  have iring : ∀ {x}, x ∈ itsG (pfM l) (pfM m) s k → x ∈ ringG (pfM l) (pfM m) s k := fun {x} h => mem_ring.mpr ⟨x, h, .inl rfl⟩
  have S1 := ring_swap nd I J hs hk h1 (n := n) fun x hx => H.old x (isub hx).1 (off x (iring hx))
  have e1 : otherM n (ringG (pfM l) (pfM m) s k) = swapM n ((itsG (pfM l) (pfM m) s k).map (stP (pfM l))) ((itsG (pfM l) (pfM m) s k).map (stP (pfM m))) := by
    unfold otherM
    rw [a1, a0, if_pos]
    rw [List.all_eq_true]
    intro t ht
    simpa using S1.sub t ht
  have L2 := swap_lay nd H.lay S1
  have hsi : s ∈ itsG (pfM l) (pfM m) s k := mem_its.mpr ⟨0, hk.pos, rfl⟩
  have e2 : otherM (swapM n ((itsG (pfM l) (pfM m) s k).map (stP (pfM l))) ((itsG (pfM l) (pfM m) s k).map (stP (pfM m)))) (ringG (pfM l) (pfM m) s k) = n := by
    unfold otherM
    rw [a1, a0, if_neg]
    · exact swap_back nd H.lay S1
    · rw [List.all_eq_true]
      intro h
      have h2 := h _ (List.mem_map_of_mem hsi)
      rw [List.contains_iff_mem] at h2
      have h3 : stP (pfM m) s ∈ swapM n ((itsG (pfM l) (pfM m) s k).map (stP (pfM l))) ((itsG (pfM l) (pfM m) s k).map (stP (pfM m))) := mem_swap.mpr (.inr (List.mem_map_of_mem hsi))
      have e := lay_dis nd L2 h2 h3 (stM_has s (pfM l s)).1 (stM_has s (pfM m s)).1
      exact many_diff hp hq hs hk (by omega) hsi (stP_eq hp hq hs hs rfl e).2
  have offA : ∀ {r : Sq → Sq}, InvP F colB r → ∀ {x}, x ∈ F → x ∉ ringG (pfM l) (pfM m) s k → stP r x ∉ (itsG (pfM l) (pfM m) s k).map (stP (pfM l)) := by
    intro r hr x hx hn hm
    obtain ⟨y, hy, e⟩ := List.mem_map.mp hm
    have h2 := (stM_has x (r x)).1
    have e' : stM y (pfM l y) = stM x (r x) := e
    rw [← e'] at h2
    rcases stM_only h2 with h3 | h3
    · exact hn (h3 ▸ iring hy)
    · exact hn (mem_ring.mpr ⟨y, hy, .inr h3⟩)
  rw [e1]
  refine ⟨⟨L2, fun x hx hm => ?_, fun x hx hm => ?_⟩, e2⟩
  · by_cases hxr : x ∈ ringG (pfM l) (pfM m) s k
    · refine mem_swap.mpr (.inr ?_)
      obtain ⟨y, hy, h⟩ := (ring_q2 hp hq hs hk).mp hxr
      rcases h with rfl | rfl
      · exact List.mem_map_of_mem hy
      · have : stP (pfM m) (pfM m y) = stP (pfM m) y := by
          unfold stP
          rw [hq.inv _ (isub hy).1, stM_comm]
        rw [this]
        exact List.mem_map_of_mem hy
    · rcases List.mem_append.mp hm with h | h
      · exact mem_swap.mpr (.inl ⟨H.new x hx h, offA hq hx hxr⟩)
      · exact (hxr h).elim
  · have hxS : x ∉ S := fun h => hm (List.mem_append_left _ h)
    have hxr : x ∉ ringG (pfM l) (pfM m) s k := fun h => hm (List.mem_append_right _ h)
    exact mem_swap.mpr (.inl ⟨H.old x hx hxS, offA hp hx hxr⟩)
theorem other_step (nd : F.Nodup) (I : IsLay F l) (J : IsLay F m) {r S : List Sq} {n : Lay} (H : Half F m l S n) (hr : Told F l m r) (off : ∀ x ∈ r, x ∉ S) : Half F m l (S ++ r) (otherM n r) := by
  obtain ⟨s, k, hs, hk, h1, rfl, _⟩ := hr.ex
  have hp := pf_inv nd I
  have hq := pf_inv nd J
  have a1 := along_1 (p := pfM l) (q := pfM m) (s := s) hk.pos
  have a0 := along_0 hp hq hs hk
  have isub := fun {x} h => its_sub hp hq hs (k := k) (x := x) h
  have iring : ∀ {x}, x ∈ itsG (pfM l) (pfM m) s k → x ∈ ringG (pfM l) (pfM m) s k := fun {x} h => mem_ring.mpr ⟨x, h, .inl rfl⟩
  have S0 := ring_swap nd I J hs hk h1 (n := l) fun x hx => pf_in nd I (isub hx).1
  have S1 : Swap n ((itsG (pfM l) (pfM m) s k).map (stP (pfM m))) ((itsG (pfM l) (pfM m) s k).map (stP (pfM l))) := by
    refine ⟨fun t ht => ?_, S0.nB, S0.nA, fun t h1 h2 => S0.dis t h2 h1, fun t ht => ?_, S0.pm.symm⟩
    · obtain ⟨x, hx, rfl⟩ := List.mem_map.mp ht
      exact H.old x (isub hx).1 (off x (iring hx))
    · exact I.st t (S0.sub t ht)
  have hsi : s ∈ itsG (pfM l) (pfM m) s k := mem_its.mpr ⟨0, hk.pos, rfl⟩
  have e1 : otherM n (ringG (pfM l) (pfM m) s k) = swapM n ((itsG (pfM l) (pfM m) s k).map (stP (pfM m))) ((itsG (pfM l) (pfM m) s k).map (stP (pfM l))) := by
    unfold otherM
    rw [a1, a0, if_neg]
    rw [List.all_eq_true]
    intro h
    have h2 := h _ (List.mem_map_of_mem hsi)
    rw [List.contains_iff_mem] at h2
    have h3 : stP (pfM m) s ∈ n := S1.sub _ (List.mem_map_of_mem hsi)
    have e := lay_dis nd H.lay h2 h3 (stM_has s (pfM l s)).1 (stM_has s (pfM m s)).1
    exact many_diff hp hq hs hk (by omega) hsi (stP_eq hp hq hs hs rfl e).2
  have L2 := swap_lay nd H.lay S1
  have offA : ∀ {r : Sq → Sq}, InvP F colB r → ∀ {x}, x ∈ F → x ∉ ringG (pfM l) (pfM m) s k → stP r x ∉ (itsG (pfM l) (pfM m) s k).map (stP (pfM m)) := by
    intro r hr x hx hn hm
    obtain ⟨y, hy, e⟩ := List.mem_map.mp hm
    have h2 := (stM_has x (r x)).1
    have e' : stM y (pfM m y) = stM x (r x) := e
    rw [← e'] at h2
    rcases stM_only h2 with h3 | h3
    · exact hn (h3 ▸ iring hy)
    · exact hn ((ring_q2 hp hq hs hk).mpr ⟨y, hy, .inr h3⟩)
  rw [e1]
  refine ⟨L2, fun x hx hm => ?_, fun x hx hm => ?_⟩
  · by_cases hxr : x ∈ ringG (pfM l) (pfM m) s k
    · refine mem_swap.mpr (.inr ?_)
      obtain ⟨y, hy, h⟩ := mem_ring.mp hxr
      rcases h with rfl | rfl
      · exact List.mem_map_of_mem hy
      · have : stP (pfM l) (pfM l y) = stP (pfM l) y := by
          unfold stP
          rw [hp.inv _ (isub hy).1, stM_comm]
        rw [this]
        exact List.mem_map_of_mem hy
    · rcases List.mem_append.mp hm with h | h
      · exact mem_swap.mpr (.inl ⟨H.new x hx h, offA hp hx hxr⟩)
      · exact (hxr h).elim
  · have hxS : x ∉ S := fun h => hm (List.mem_append_left _ h)
    have hxr : x ∉ ringG (pfM l) (pfM m) s k := fun h => hm (List.mem_append_right _ h)
    exact mem_swap.mpr (.inl ⟨H.old x hx hxS, offA hq hx hxr⟩)
structure RingsInv (F : List Sq) (l m : Lay) (i : Nat) (S : List Sq) (T : List (List Sq)) : Prop where
  told : ∀ r ∈ T, Told F l m r
  nd : T.flatten.Nodup
  up : (T.map fun r => r.getD 0 (0, 0)).Pairwise sqLt
  fst : ∀ r ∈ T, r.getD 0 (0, 0) ∈ F.take i
  sub : ∀ x ∈ S, x ∈ F
  snd : S.Nodup
  cp : ∀ x ∈ S, pfM l x ∈ S
  cq : ∀ x ∈ S, pfM m x ∈ S
  seen : ∀ x ∈ F.take i, x ∈ S
  inS : ∀ x ∈ T.flatten, x ∈ S
  rest : ∀ x ∈ S, x ∉ T.flatten → pfM l x = pfM m x
theorem inv0 : RingsInv F l m 0 [] [] := ⟨(fun _ h => nomatch h), .nil, .nil, (fun _ h => nomatch h), (fun _ h => nomatch h), .nil, (fun _ h => nomatch h), (fun _ h => nomatch h), (fun _ h => by simp at h), (fun _ h => nomatch h), (fun _ h => nomatch h)⟩
theorem RingsInv.end {S : List Sq} {T : List (List Sq)} (H : RingsInv F l m F.length S T) : RingsOk F l m T :=
  ⟨H.told, H.nd, H.up, fun x hx hn => H.rest x (H.seen x (by rwa [List.take_length])) hn⟩
theorem RingsInv.skip {i : Nat} {S : List Sq} {T : List (List Sq)} (H : RingsInv F l m i S T) {x : Sq} (hx : F[i]? = some x) (hS : x ∈ S) : RingsInv F l m (i + 1) S T := by
  have e : F.take (i + 1) = F.take i ++ [x] := by rw [List.take_add_one, hx]; rfl
  exact ⟨H.told, H.nd, H.up, fun r hr => by rw [e]; exact List.mem_append_left _ (H.fst r hr), H.sub, H.snd, H.cp, H.cq, fun y hy => by
    rw [e] at hy
    rcases List.mem_append.mp hy with h | h
    · exact H.seen y h
    · rw [List.mem_singleton.mp h]; exact hS, H.inS, H.rest⟩
theorem RingsInv.next (up : F.Pairwise sqLt) (nd : F.Nodup) (I : IsLay F l) (J : IsLay F m) {i : Nat} {S : List Sq} {T : List (List Sq)} (H : RingsInv F l m i S T) {s : Sq} (hx : F[i]? = some s) (hS : s ∉ S) {k : Nat} (hk : Per (pfM l) (pfM m) s k) :
    RingsInv F l m (i + 1) (S ++ ringG (pfM l) (pfM m) s k) (T ++ if 2 < (ringG (pfM l) (pfM m) s k).length then [ringG (pfM l) (pfM m) s k] else []) := by
  have e : F.take (i + 1) = F.take i ++ [s] := by rw [List.take_add_one, hx]; rfl
  have hs : s ∈ F := List.mem_of_getElem? hx
  have hp := pf_inv nd I
  have hq := pf_inv nd J
  have off : ∀ y ∈ ringG (pfM l) (pfM m) s k, y ∉ S := fun y hy => ring_off hp hq hs H.cp H.cq hS hy
  have rsub : ∀ y ∈ ringG (pfM l) (pfM m) s k, y ∈ F := fun y hy => ring_sub hp hq hs hy
  have hmin : ∀ y ∈ ringG (pfM l) (pfM m) s k, y = s ∨ sqLt s y := by
    intro y hy
    rcases sqLt_tri y s with h | h | h
    · exfalso
      refine off y hy (H.seen y ?_)
      obtain ⟨j, hj, ej⟩ := List.mem_iff_getElem.mp (rsub y hy)
      obtain ⟨hi, ei⟩ := List.getElem?_eq_some_iff.mp hx
      rw [List.pairwise_iff_getElem] at up
      rcases Nat.lt_trichotomy j i with g | g | g
      · rw [← ej]
        rw [List.mem_take_iff_getElem]
        exact ⟨j, by omega, rfl⟩
      · subst g
        rw [← ej, ← ei] at h
        exact (sqLt_irrefl _ h).elim
      · have := up i j hi hj g
        rw [ei, ej] at this
        exact (sqLt_irrefl _ (sqLt_trans this h)).elim
    · exact .inl h
    · exact .inr h
  have hd : (ringG (pfM l) (pfM m) s k).getD 0 (0, 0) = s := by
    have := ring_at0 (p := pfM l) (q := pfM m) (s := s) hk.pos
    rw [List.getD_eq_getElem?_getD, show (0 : Nat) = 2 * 0 from rfl, this]
    rfl
  have hso : s ∉ T.flatten := fun h => hS (H.inS s h)
  have rn := ring_nd hp hq hs hk
  have hlen := ring_len (p := pfM l) (q := pfM m) (s := s) k
  have old : ∀ t ∈ T, sqLt (t.getD 0 (0, 0)) s := by
    intro t ht
    have h1 := H.fst t ht
    obtain ⟨j, hj, ej⟩ := List.mem_take_iff_getElem.mp h1
    obtain ⟨hi, ei⟩ := List.getElem?_eq_some_iff.mp hx
    rw [List.pairwise_iff_getElem] at up
    have := up j i (by omega) hi (by omega)
    rw [ei, ej] at this
    exact this
  have fl : ∀ y, y ∈ (T ++ if 2 < (ringG (pfM l) (pfM m) s k).length then [ringG (pfM l) (pfM m) s k] else []).flatten ↔ y ∈ T.flatten ∨ (2 < (ringG (pfM l) (pfM m) s k).length ∧ y ∈ ringG (pfM l) (pfM m) s k) := by
    intro y
    rw [List.flatten_append, List.mem_append]
    by_cases h : 2 < (ringG (pfM l) (pfM m) s k).length
    · rw [if_pos h]; simp [h]
    · rw [if_neg h]; simp [h]
  have isR : 2 < (ringG (pfM l) (pfM m) s k).length → Told F l m (ringG (pfM l) (pfM m) s k) := fun h => ⟨s, k, hs, hk, by omega, rfl, hmin⟩
  refine ⟨fun r hr => ?_, ?_, ?_, fun r hr => ?_, fun x h => ?_, ?_, fun x h => ?_, fun x h => ?_, fun x h => ?_, fun x h => ?_, fun x h hn => ?_⟩
  · rcases List.mem_append.mp hr with h | h
    · exact H.told r h
    · split at h
      · rw [List.mem_singleton.mp h]; exact isR (by assumption)
      · cases h
  · rw [List.flatten_append, List.nodup_append]
    refine ⟨H.nd, ?_, fun a ha b hb eab => ?_⟩
    · split
      · simpa using rn
      · exact .nil
    · split at hb
      · rw [List.flatten_cons, List.flatten_nil, List.append_nil] at hb
        exact off b hb (eab ▸ H.inS a ha)
      · cases hb
  · rw [List.map_append, List.pairwise_append]
    refine ⟨H.up, ?_, fun a ha b hb => ?_⟩
    · split
      · exact List.pairwise_singleton _ _
      · exact .nil
    · obtain ⟨t, ht, rfl⟩ := List.mem_map.mp ha
      split at hb
      · rw [List.map_cons, List.map_nil, List.mem_singleton] at hb
        rw [hb, hd]
        exact old t ht
      · cases hb
  · rw [e]
    rcases List.mem_append.mp hr with h | h
    · exact List.mem_append_left _ (H.fst r h)
    · split at h
      · rw [List.mem_singleton.mp h, hd]; simp
      · cases h
  · rcases List.mem_append.mp h with h | h
    · exact H.sub x h
    · exact rsub x h
  · rw [List.nodup_append]
    exact ⟨H.snd, rn, fun a ha b hb eab => off b hb (eab ▸ ha)⟩
  · rcases List.mem_append.mp h with h | h
    · exact List.mem_append_left _ (H.cp x h)
    · exact List.mem_append_right _ (ring_p hp hq hs h)
  · rcases List.mem_append.mp h with h | h
    · exact List.mem_append_left _ (H.cq x h)
    · exact List.mem_append_right _ (ring_q hp hq hs hk h)
  · rw [e] at h
    rcases List.mem_append.mp h with h | h
    · exact List.mem_append_left _ (H.seen x h)
    · rw [List.mem_singleton.mp h]
      exact List.mem_append_right _ (mem_ring.mpr ⟨s, mem_its.mpr ⟨0, hk.pos, rfl⟩, .inl rfl⟩)
  · rcases (fl x).mp h with h | h
    · exact List.mem_append_left _ (H.inS x h)
    · exact List.mem_append_right _ h.2
  · rw [fl] at hn
    rcases List.mem_append.mp h with h | h
    · exact H.rest x h fun z => hn (.inl z)
    · have hk1 : k = 1 := by
        have : ¬ 2 < (ringG (pfM l) (pfM m) s k).length := fun z => hn (.inr ⟨z, h⟩)
        have hpos := hk.pos
        omega
      subst hk1
      exact one_same hp hq hs hk h
end
end TF
namespace TF
open PySem PySem.Spec L2
open PyProof.Rows hiding St RelV
section
variable {prog : Program} {w : World} {A : Around} {R : Result → Shared → Prop} {I : Addr} {fp wr : List Addr} {n : Nat} {P : Nat → Value → Prop} {St : Nat → Heap → Prop} {S : Addr} {s : Shared}
theorem min_stay {v0 : Value} (W : Walks prog w A.in1 I fp wr n P St) (hSf : S ∉ fp)
    (hc : ∀ (j : Nat) (v : Value) (h' : Heap) (tk : Nat), 1 ≤ j → P j v → (∀ b o, b ∉ wr → b ≠ S → s.heap.get? b = some o → h'.get? b = some o) → ∀ (Q' E' : Value → Shared → Prop), Q' (.bool false) { s with heap := h', toks := tk } → wpAny (model prog w) A.in1 (richCompare .Lt v v0) Q' E' { s with heap := h', toks := tk })
    (hR : ∀ h' tk, (∀ b o, b ∉ wr → b ≠ S → s.heap.get? b = some o → h'.get? b = some o) → R (.ok (.ret v0)) { s with heap := h', toks := tk }) :
    ∀ (d j : Nat) (h1 : Heap) (tk1 c : Nat), j + d = n → 1 ≤ j → St j h1 → h1.get? S = some { cls := .type "list", dict := none, data := .seq #[v0, v0] c, slots := #[] } → (∀ b o, b ∉ wr → b ≠ S → s.heap.get? b = some o → h1.get? b = some o) →
      codeAny (model prog w) A (.builtin "min.loop" ⟨[.ref I, .none, .ref S], []⟩) R { s with heap := h1, toks := tk1 }
  | 0, j, h1, tk1, c, e, hj, st, hS, old => by
    have : j = n := by omega
    subst this
    exact min_end (s := { s with heap := h1, toks := tk1 }) W hSf st hS fun h' tk k => hR h' tk fun b o hb hb2 z => k b o hb hb2 (old b o hb hb2 z)
  | d + 1, j, h1, tk1, c, e, hj, st, hS, old => by
    refine min_next (s := { s with heap := h1, toks := tk1 }) (j := j) false W hSf (by omega) st hS fun v h' tk hP k => ⟨fun Q' E' q => hc j v h' tk hj hP (fun b o hb hb2 z => k b o hb (old b o hb hb2 z)) Q' E' q, fun h'' c' k' st' hS' => ?_⟩
    exact min_stay W hSf hc hR d (j + 1) h'' tk c' (by omega) (by omega) st' hS' fun b o hb hb2 z => k' b o hb2 (k b o hb (old b o hb hb2 z))
end
theorem min_list {prog : Program} {w : World} {A : Around} {E : Value → Shared → Prop} {s : Shared} {l : Addr} {xs : Array Value} {v0 : Value} {Q : Value → Shared → Prop} (hh : A.handled = none) (hl : s.heap.IsList l xs) (h0 : xs[0]? = some v0)
    (hc : ∀ (j : Nat) (v : Value) (h' : Heap) (tk : Nat) (Q' E' : Value → Shared → Prop), xs[j]? = some v → (∀ c o, s.heap.get? c = some o → h'.get? c = some o) → Q' (.bool false) { s with heap := h', toks := tk } → wpAny (model prog w) A.in1 (richCompare .Lt v v0) Q' E' { s with heap := h', toks := tk })
    (h : ∀ h' tk, (∀ c o, s.heap.get? c = some o → h'.get? c = some o) → Q v0 { s with heap := h', toks := tk }) : wpAny (model prog w) A (call (.builtin "min") [.ref l]) Q E s := by
  have hname : (toString "min" ++ toString ".loop" : String) = "min.loop" := by decide
  have hlt : l < s.heap.objs.size := by obtain ⟨_, e, _⟩ := hl; exact Heap.lt_size e
  have hn : 0 < xs.size := by
    rcases Nat.eq_zero_or_pos xs.size with e | e
    · rw [Array.getElem?_eq_none (by omega)] at h0; cases h0
    · exact e
  refine call_function_tree F.kind_min F.plain_min F.entry_min (F.args_min1 _) ?_
  show wpAny _ A.in1 (Builtin.Builtins.bindParams "min" ["key", "default"] 0 ⟨[], []⟩ >>= _) _ _ s
  refine wpAny_bind (wpAny_of_eq (show Builtin.Builtins.bindParams "min" ["key", "default"] 0 ⟨[], []⟩ = pure [none, none] from rfl) ?_)
  refine wpAny_bind (wpAny_pure ?_)
  refine wpAny_bind (wpAny_pyIter_list hl ?_)
  refine wpAny_bind (wpAny_newObj_type ?_)
  rw [hname]
  have z1 : (s.heap.push { cls := .type "list_iterator", data := .fields #[.ref l, .int 0 0] }).objs.size = s.heap.objs.size + 1 := Heap.size_push ..
  have W := Walks.list (prog := prog) (w := w) (A := A.in1) hh s.heap.objs.size l (Nat.ne_of_lt hlt) xs
  have hSf : (s.heap.push { cls := .type "list_iterator", data := .fields #[.ref l, .int 0 0] }).objs.size ∉ [s.heap.objs.size, l] := by
    rw [z1]
    simp only [List.mem_cons, List.not_mem_nil, or_false, not_or]
    exact ⟨Nat.succ_ne_self _, fun z => by rw [← z] at hlt; exact Nat.not_succ_lt_self hlt⟩
  have old : ∀ b o, s.heap.get? b = some o → b ∉ [s.heap.objs.size] ∧ b ≠ (s.heap.push { cls := .type "list_iterator", data := .fields #[.ref l, .int 0 0] }).objs.size := fun b o e => by
    have hb := Heap.lt_size e
    rw [z1]
    refine ⟨fun hm => ?_, fun z => by rw [z] at hb; exact Nat.not_succ_lt_self hb⟩
    rw [List.mem_singleton.mp hm] at hb
    exact Nat.lt_irrefl _ hb
  refine wpAny_pure ⟨plainId_quiet F.plain_min_loop _, ?_⟩
  refine min_first (s := { s with heap := (s.heap.push { cls := .type "list_iterator", data := .fields #[.ref l, .int 0 0] }).push { cls := .type "list", data := .seq #[] } }) (c := 0) W hSf hn ⟨⟨_, Heap.get?_push_of_some _ (Heap.get?_push_size _ rfl), rfl, rfl⟩, (hl.push _).push _⟩ (Heap.get?_push_size _ rfl) fun v h4 tk4 c4 hP4 k4 st4 hS4 => ?_
  have ev : v = v0 := by rw [h0] at hP4; cases hP4; rfl
  subst ev
  have k5 : ∀ b o, s.heap.get? b = some o → h4.get? b = some o := fun b o e => k4 b o (old b o e).1 (old b o e).2 (Heap.get?_push_of_some _ (Heap.get?_push_of_some _ e))
  refine min_stay (s := { s with heap := h4, toks := tk4 }) (v0 := v) W hSf (fun j u h' tk hj hP k Q' E' q => hc j u h' tk Q' E' hP (fun c o e => k c o (old c o e).1 (old c o e).2 (k5 c o e)) q) (fun h' tk k => h h' tk fun c o e => k c o (old c o e).1 (old c o e).2 (k5 c o e)) (xs.size - 1) 1 h4 tk4 c4 (by omega) (Nat.le_refl _) st4 hS4 fun _ _ _ _ z => z
section
variable {X : Cx} {ρ : Rho} {G : Gs} {e a b c : Expr} {d d1 d2 : Dat} {l : List Dat} {pos : Pos} {x y : Sq} {p : Addr}
theorem call_minSqL (hc : X.calm = true) (hu : X.A.units + 20 < cLine) : CallR X (.builtin "min") (fun xs H Q => ∃ (p : Addr) (L : List Sq) (x : Sq) (vs : List V), xs = [.ref p] ∧ SqL X.K H p vs ∧ RepL X.K H (L.map sq) vs ∧ L[0]? = some x ∧ (∀ y ∈ L, y = x ∨ sqLt x y) ∧ ∀ v, Rep X.K H (sq x) v → vs[0]? = some v → Q v H) := by
  intro pins s σ H xs us Q I r h
  obtain ⟨p, L, x, vs, rfl, hq, hL, h0, hmin, q⟩ := h
  obtain ⟨u, rfl, rx⟩ := vals1 r
  cases rx
  obtain ⟨its, r', pl, hz⟩ := I.list hq
  obtain ⟨v0, hv0, rv0⟩ := hL.get (i := 0) (d := sq x) (by rw [List.getElem?_map, h0]; rfl)
  obtain ⟨u0, hu0, ru0⟩ := r'.get hv0
  refine min_list (I.ok.hd hc) pl.isList (v0 := u0) (by simpa using hu0) (fun j v h' tk Q' E' hj k q' => ?_) (fun h' tk k => ⟨v0, H, I.kept k, ru0, q v0 rv0 hv0⟩)
  have hj' : its[j]? = some v := by simpa using hj
  have hjl : j < its.length := (List.getElem?_eq_some_iff.mp hj').1
  obtain ⟨y, hy⟩ : ∃ y, L[j]? = some y := by
    have e1 := hL.length
    have e2 := r'.length
    rw [List.length_map] at e1
    exact ⟨L[j]'(by omega), List.getElem?_eq_getElem _⟩
  obtain ⟨vj, hvj, rvj⟩ := hL.get (i := j) (d := sq y) (by rw [List.getElem?_map, hy]; rfl)
  obtain ⟨uj, huj, ruj⟩ := r'.get hvj
  rw [hj'] at huj
  cases huj
  have I' := I.kept (t' := tk) k
  have := ltAt_D (A := X.A.in1) (s := { s with heap := h', toks := tk }) true 9 (d := sq y) (e := sq x) rfl (plain_sq y 8) (plain_sq x 8) (rvj.at I' (plain_sq y 8) ruj) (rv0.at I' (plain_sq x 8) ru0) (by show X.A.units + 1 + 9 < cLine; omega) X.prog X.w E' Q'
  rw [cmp_sq, decide_eq_false] at this
  · exact this q'
  · rcases hmin y (List.mem_of_getElem? hy) with rfl | h
    · exact sqLt_irrefl _
    · exact fun z => sqLt_irrefl _ (sqLt_trans h z)
theorem px_minSqL {pp : Pos} {L : List Sq} (hc : X.calm = true) (hu : X.A.units + 20 < cLine) (hm : X.mg "min" = none) (ha : PX X ρ G a (.lst (L.map sq))) (h0 : L[0]? = some x) (hmin : ∀ y ∈ L, y = x ∨ sqLt x y) (hg : Gl X "min" := by rfl) (he : starEach [a] X.env = (false, eval a X.env) :: starEach [] X.env := by rfl) : PX X ρ G (.Call (.Name "min" pp) [a] [] pos) (sq x) :=
  px_call1 (call_minSqL hc hu) hg hm (by decide +kernel) ha (fun H v Q o r k => by
    rw [Rep] at r
    obtain ⟨q, vs, e, g1, r1⟩ := r
    refine ⟨q, L, x, vs, by rw [e], SqL.of (hid_le _ _ g1), r1.same hid_le, h0, hmin, fun v' r' hv => ?_⟩
    obtain ⟨v2, hv2, r2⟩ := r1.get (i := 0) (d := sq x) (by rw [List.getElem?_map, h0]; rfl)
    rw [hv] at hv2
    cases hv2
    exact k _ _ (po1' o r2)) (he := he)
theorem px_listL {pp : Pos} (hg : Gl X "list") (hm : X.mg "list" = none) (hv : bootBuiltins "list" = some (.type "list")) (ha : PX X ρ G a (.lst l)) (he : starEach [a] X.env = (false, eval a X.env) :: starEach [] X.env := by rfl) : PX X ρ G (.Call (.Name "list" pp) [a] [] pos) (.lst l) :=
  px_callT1 call_list_of hg hm hv ha (fun H x Q o r k => by
    rw [Rep] at r
    obtain ⟨q, vs, e, h1, r1⟩ := r
    exact ⟨q, vs, by rw [e], .inl (SqL.of (hid_le _ _ h1)), fun t ht => k _ _ (new_lst o ht r1)⟩) (he := he)
theorem we_out {Q : Dat → Gs → Prop} (h : PX X ρ G e (.fn p)) (hG : G p = some (.lst l)) (q : Q (.lst l) (rel G p)) : WE X ρ G e Q :=
  fun pins s σ H I S => thn (h pins s σ H I S) fun v s1 z => EP.mono z fun x H1 ⟨_, _, e1, o1, r1, q1, q1'⟩ => by
    subst q1; subst q1'
    cases (show x = V.ref p from r1)
    obtain ⟨E, O, R⟩ := own_rel o1 hG
    exact ⟨_, _, e1.trans E, O, R, q⟩
end
def pdM (l : Lay) : List (Dat × Dat) := (sqsOf l).map fun q => (sq q, sq (pfM l q))
theorem look_pd {F : List Sq} {l : Lay} (I : IsLay F l) {x : Sq} (hx : x ∈ F) : lookD (pdM l) (sq x) = some (sq (pfM l x)) := by
  unfold pdM
  rw [lookD_sq (sqsOf l) (fun q => sq (pfM l q)) x, if_pos (I.pm.mem_iff.mpr hx)]
theorem put_pd {L : List Sq} {l : Lay} {x : Sq} (h : x ∉ L) {d : Dat} (hd : d = sq (pfM l x)) : putD (L.map fun q => (sq q, sq (pfM l q))) (sq x) d = (L ++ [x]).map fun q => (sq q, sq (pfM l q)) := by
  rw [putD_new, List.map_append, hd]
  · rfl
  · rw [lookD_sq L (fun q => sq (pfM l q)) x, if_neg h]
def ringD (r : List Sq) : Dat := .lst (r.map sq)
def ringsD (T : List (List Sq)) : Dat := .lst (T.map ringD)
def spPartners : SpD := fun ds G R => ∃ (F : List Sq) (l : Lay), ds = [lay l] ∧ F.Nodup ∧ F.length ≤ 24 ∧ IsLay F l ∧ ∀ p, G p = none → R (.fn p) (put G p (.dct (pdM l)))
def spRingFrom : SpD := fun ds G R => ∃ (F : List Sq) (l m : Lay) (s : Sq) (p1 p2 : Addr), ds = [sq s, .fn p1, .fn p2] ∧ F.Nodup ∧ F.length ≤ 24 ∧ IsLay F l ∧ IsLay F m ∧ s ∈ F ∧ G p1 = some (.dct (pdM l)) ∧ G p2 = some (.dct (pdM m)) ∧ ∀ k, Per (pfM l) (pfM m) s k → R (ringD (ringG (pfM l) (pfM m) s k)) G
def spRings : SpD := fun ds G R => ∃ (F : List Sq) (l m : Lay), ds = [lay l, lay m] ∧ F.Pairwise sqLt ∧ F.length ≤ 24 ∧ IsLay F l ∧ IsLay F m ∧ ∀ T, RingsOk F l m T → R (ringsD T) G
theorem ring_short {F : List Sq} (nd : F.Nodup) {l m : Lay} (I : IsLay F l) (J : IsLay F m) {s : Sq} {k : Nat} (hs : s ∈ F) (hk : Per (pfM l) (pfM m) s k) : (ringG (pfM l) (pfM m) s k).length ≤ F.length :=
  nodup_le (ring_nd (pf_inv nd I) (pf_inv nd J) hs hk) fun x hx => ring_sub (pf_inv nd I) (pf_inv nd J) hs hx
end TF
namespace TF
open PySem PySem.Spec L2
open PyProof.Rows hiding St RelV
def top (i : Nat) : Stmt := PySem.Challenge.pw_tilefloor_k12_whole_rings.main.body.getD i (.Pass ⟨0, 0, 0, 0⟩)
abbrev s_covered : Stmt := top 1
abbrev N_covered : List Str := ["stones", "squares", "stone"]
abbrev P_covered : List Str := ["stones"]
theorem sc_covered : FnScope N_covered P_covered (defScope s_covered) := ⟨rfl, rfl, rfl, by decide +kernel, rfl, by decide +kernel, by decide +kernel⟩
abbrev s_partners : Stmt := top 3
abbrev N_partners : List Str := ["laying", "partner", "lesser", "greater"]
abbrev P_partners : List Str := ["laying"]
theorem sc_partners : FnScope N_partners P_partners (defScope s_partners) := ⟨rfl, rfl, rfl, by decide +kernel, rfl, by decide +kernel, by decide +kernel⟩
abbrev s_ring_from : Stmt := top 4
abbrev N_ring_from : List Str := ["start", "first", "second", "ring", "square"]
abbrev P_ring_from : List Str := ["start", "first", "second"]
theorem sc_ring_from : FnScope N_ring_from P_ring_from (defScope s_ring_from) := ⟨rfl, rfl, rfl, by decide +kernel, rfl, by decide +kernel, by decide +kernel⟩
abbrev s_rings : Stmt := top 5
abbrev N_rings : List Str := ["one", "other", "first", "second", "seen", "told", "start", "ring", "square"]
abbrev P_rings : List Str := ["one", "other"]
theorem sc_rings : FnScope N_rings P_rings (defScope s_rings) := ⟨rfl, rfl, rfl, by decide +kernel, rfl, by decide +kernel, by decide +kernel⟩
abbrev s_stones_along : Stmt := top 6
abbrev N_stones_along : List Str := ["ring", "begin", "stones", "at"]
abbrev P_stones_along : List Str := ["ring", "begin"]
theorem sc_stones_along : FnScope N_stones_along P_stones_along (defScope s_stones_along) := ⟨rfl, rfl, rfl, by decide +kernel, rfl, by decide +kernel, by decide +kernel⟩
abbrev s_has_all : Stmt := top 7
abbrev N_has_all : List Str := ["laying", "stones"]
abbrev P_has_all : List Str := ["laying", "stones"]
theorem sc_has_all : FnScope N_has_all P_has_all (defScope s_has_all) := ⟨rfl, rfl, rfl, by decide +kernel, rfl, by decide +kernel, by decide +kernel⟩
abbrev C_has_all_0 : List Str := ["stone", "laying"]
abbrev Q_has_all_0 : List (Option Nat) := [none, some 0]
abbrev s_laid_otherwise : Stmt := top 8
abbrev N_laid_otherwise : List Str := ["laying", "ring", "taken", "put", "kept"]
abbrev P_laid_otherwise : List Str := ["laying", "ring"]
theorem sc_laid_otherwise : FnScope N_laid_otherwise P_laid_otherwise (defScope s_laid_otherwise) := ⟨rfl, rfl, rfl, by decide +kernel, rfl, by decide +kernel, by decide +kernel⟩
abbrev C_laid_otherwise_0 : List Str := ["stone", "taken"]
abbrev Q_laid_otherwise_0 : List (Option Nat) := [none, some 2]
abbrev s_law_cell : Stmt := top 10
abbrev N_law_cell : List Str := ["_law_script", "_law_k"]
abbrev P_law_cell : List Str := ["_law_script", "_law_k"]
theorem sc_law_cell : FnScope N_law_cell P_law_cell (defScope s_law_cell) := ⟨rfl, rfl, rfl, by decide +kernel, rfl, by decide +kernel, by decide +kernel⟩
abbrev s_law_mix : Stmt := top 11
abbrev N_law_mix : List Str := ["_law_cell_here", "_law_prime", "_law_many"]
abbrev P_law_mix : List Str := ["_law_cell_here", "_law_prime", "_law_many"]
theorem sc_law_mix : FnScope N_law_mix P_law_mix (defScope s_law_mix) := ⟨rfl, rfl, rfl, by decide +kernel, rfl, by decide +kernel, by decide +kernel⟩
abbrev s_law_floor : Stmt := top 12
abbrev N_law_floor : List Str := ["_law_script", "_law_at", "_law_cell_here", "_law_rows", "_law_wide", "_law_down", "_law_right", "_law_some", "_law_r", "_law_gone", "_law_k", "_law_seed", "_law_one", "_law_left"]
abbrev P_law_floor : List Str := ["_law_script", "_law_at"]
theorem sc_law_floor : FnScope N_law_floor P_law_floor (defScope s_law_floor) := ⟨rfl, rfl, rfl, by decide +kernel, rfl, by decide +kernel, by decide +kernel⟩
abbrev C_law_floor_0 : List Str := ["_law_c", "_law_down", "_law_r", "_law_right"]
abbrev Q_law_floor_0 : List (Option Nat) := [none, some 5, some 8, some 6]
abbrev C_law_floor_1 : List Str := ["_law_one", "_law_gone"]
abbrev Q_law_floor_1 : List (Option Nat) := [none, some 9]
abbrev s_law_near : Stmt := top 13
abbrev N_law_near : List Str := ["_law_floor_here", "_law_square", "_law_r", "_law_c"]
abbrev P_law_near : List Str := ["_law_floor_here", "_law_square"]
theorem sc_law_near : FnScope N_law_near P_law_near (defScope s_law_near) := ⟨rfl, rfl, rfl, by decide +kernel, rfl, by decide +kernel, by decide +kernel⟩
abbrev C_law_near_0 : List Str := ["_law_one", "_law_floor_here"]
abbrev Q_law_near_0 : List (Option Nat) := [none, some 0]
abbrev s_law_every : Stmt := top 14
abbrev N_law_every : List Str := ["_law_floor_here", "_law_known", "_law_found", "_law_last", "_law_other", "_law_left"]
abbrev P_law_every : List Str := ["_law_floor_here", "_law_known"]
theorem sc_law_every : FnScope N_law_every P_law_every (defScope s_law_every) := ⟨rfl, rfl, rfl, by decide +kernel, rfl, by decide +kernel, by decide +kernel⟩
abbrev C_law_every_0 : List Str := ["_law_one", "_law_last", "_law_other"]
abbrev Q_law_every_0 : List (Option Nat) := [none, some 3, some 4]
abbrev C_law_every_1 : List Str := ["_law_row", "_law_last", "_law_other"]
abbrev Q_law_every_1 : List (Option Nat) := [none, some 3, some 4]
abbrev s_law_all : Stmt := top 15
abbrev N_law_all : List Str := ["_law_floor_here"]
abbrev P_law_all : List Str := ["_law_floor_here"]
theorem sc_law_all : FnScope N_law_all P_law_all (defScope s_law_all) := ⟨rfl, rfl, rfl, by decide +kernel, rfl, by decide +kernel, by decide +kernel⟩
abbrev C_law_all_0 : List Str := ["_law_row"]
abbrev Q_law_all_0 : List (Option Nat) := [none]
abbrev s_law_is_laying : Stmt := top 16
abbrev N_law_is_laying : List Str := ["_law_floor_here", "_law_laying", "_law_squares", "_law_k", "_law_stone"]
abbrev P_law_is_laying : List Str := ["_law_floor_here", "_law_laying"]
theorem sc_law_is_laying : FnScope N_law_is_laying P_law_is_laying (defScope s_law_is_laying) := ⟨rfl, rfl, rfl, by decide +kernel, rfl, by decide +kernel, by decide +kernel⟩
abbrev s_law_pair : Stmt := top 17
abbrev N_law_pair : List Str := ["_law_one", "_law_other"]
abbrev P_law_pair : List Str := ["_law_one", "_law_other"]
theorem sc_law_pair : FnScope N_law_pair P_law_pair (defScope s_law_pair) := ⟨rfl, rfl, rfl, by decide +kernel, rfl, by decide +kernel, by decide +kernel⟩
abbrev s_law_is_ring : Stmt := top 18
abbrev N_law_is_ring : List Str := ["_law_ring", "_law_one", "_law_other", "_law_k"]
abbrev P_law_is_ring : List Str := ["_law_ring", "_law_one", "_law_other"]
theorem sc_law_is_ring : FnScope N_law_is_ring P_law_is_ring (defScope s_law_is_ring) := ⟨rfl, rfl, rfl, by decide +kernel, rfl, by decide +kernel, by decide +kernel⟩
abbrev s_law : Stmt := top 19
abbrev N_law : List Str := ["_law_script", "_law_floor_here", "_law_every_here", "_law_one", "_law_other", "_law_found", "_law_firsts", "_law_met", "_law_ring", "_law_here", "_law_back", "_law_kept", "_law_ahead"]
abbrev P_law : List Str := ["_law_script"]
theorem sc_law : FnScope N_law P_law (defScope s_law) := ⟨rfl, rfl, rfl, by decide +kernel, rfl, by decide +kernel, by decide +kernel⟩
abbrev C_law_0 : List Str := ["_law_ring", "_law_one", "_law_other"]
abbrev Q_law_0 : List (Option Nat) := [none, some 3, some 4]
abbrev C_law_1 : List Str := ["_law_ring"]
abbrev Q_law_1 : List (Option Nat) := [none]
abbrev C_law_2 : List Str := ["_law_stone", "_law_met", "_law_other"]
abbrev Q_law_2 : List (Option Nat) := [none, some 7, some 4]
end TF
--
namespace TF
open PySem PySem.Spec L2
open PyProof.Rows hiding St RelV
theorem eqL_self12 {l : List Dat} (h : ∀ d ∈ l, eqD d d = true) : eqL l l = true := by
  induction l with
  | nil => rfl
  | cons a l ih =>
    show (eqD a a && eqL l l) = true
    rw [h a (List.mem_cons_self ..), ih fun d hd => h d (List.mem_cons_of_mem _ hd)]
    rfl
theorem eqD_lay12 (l : Lay) : eqD (lay l) (lay l) = true := eqL_self12 fun d hd => by
  obtain ⟨y, _, rfl⟩ := List.mem_map.mp hd
  rw [eqD_stone]
  simp
theorem eqD_sqs12 (l : List Sq) : eqD (.lst (l.map sq)) (.lst (l.map sq)) = true := eqL_sqs l
theorem ddup_len {l : List Sq} (h : l.Nodup) : (ddup [] l).length = l.length := nodup_len (ddup_nd l [] .nil) h fun x => by rw [ddup_mem]; simp
theorem sort_two {x y : Sq} (h : x ≠ y) : TSq.sort [x, y] = [(stM x y).1, (stM x y).2] := by
  rcases sqLt_tri x y with h' | h' | h'
  · rw [stM_lt h']
    exact TSq.uniq (TSq.sort_perm _) (TSq.sort_sorted _) (up_sorted (by simp [h']))
  · exact absurd h' h
  · rw [stM_gt h']
    exact TSq.uniq ((TSq.sort_perm _).trans (.swap ..)) (TSq.sort_sorted _) (up_sorted (by simp [h']))
theorem ringD_inj {r t : List Sq} (h : ringD r = ringD t) : r = t := by
  unfold ringD at h
  injection h with h
  exact map_sq_inj h
def spPairSt : SpD := fun ds G R => ∃ x y : Sq, ds = [sq x, sq y] ∧ x ≠ y ∧ R (stone (stM x y)) G
def spIsRing : SpD := fun ds G R => ∃ (F : List Sq) (l m : Lay) (r : List Sq), ds = [ringD r, lay l, lay m] ∧ Good F ∧ IsLay F l ∧ IsLay F m ∧ Told F l m r ∧ R (.bl true) G
theorem flat_take {α : Type} (T : List (List α)) (i : Nat) {r : List α} (h : T[i]? = some r) : (T.take (i + 1)).flatten = (T.take i).flatten ++ r := by
  rw [List.take_add_one, h, List.flatten_append]
  simp
theorem flat_le {T : List (List Sq)} {F : List Sq} (nd : T.flatten.Nodup) (sub : ∀ x ∈ T.flatten, x ∈ F) (i : Nat) : (T.take i).flatten.length ≤ F.length := by
  have e : T.flatten = (T.take i).flatten ++ (T.drop i).flatten := by rw [← List.flatten_append, List.take_append_drop]
  have h := nodup_le nd sub
  rw [e, List.length_append] at h
  omega
section
variable {P : Program} {w : World} {K : PySem.W.Frag} {mg : Str → Option Value} {base : Heap} {f : Addr} {fd : FuncData}
theorem ok_law_pair (F : Fun K "_law_pair" "_law_pair" s_law_pair f fd) (mt : mg "tuple" = none) (ms : mg "sorted" = none) : FnOk P w K mg base CX0 1 f fd P_law_pair (liftG K spPairSt) := by
  refine fn_d (k := 0) F sc_law_pair (fun ds G R h => ?_) (fun cdv A outer s H E ds G R hr h => ?_)
  · obtain ⟨x, y, rfl, _⟩ := h; rfl
  obtain ⟨x, y, rfl, hne, hR⟩ := h
  have hu : (A.deeper (envOfC "_law_pair" (defScope s_law_pair) s.heap.objs.size f cdv)).units + 20 < cLine := by have := hr.units; omega
  refine wss_ret (px_tupleL rfl mt Boot.«tuple» (px_sortedT TSq [x, y] hu ms (px_lst (pxs_cons (px_var 0 rfl) (pxs_cons (px_var 1 rfl) pxs_nil))) (.inl rfl) (.inl fun x => ⟨_, _, rfl⟩))) ?_
  rw [sort_two hne]
  exact hR
theorem ok_law_is_ring (F : Fun K "_law_is_ring" "_law_is_ring" s_law_is_ring f fd) (mi : mg "isinstance" = none) (mli : mg "list" = none) (ml : mg "len" = none) (mn : mg "min" = none) (mr : mg "range" = none) (ms : mg "set" = none) (FP : Df P w K mg base "_law_pair" P_law_pair 1 spPairSt) : FnOk P w K mg base CX0 2 f fd P_law_is_ring (liftG K spIsRing) := by
  refine fn_d (k := 1) F sc_law_is_ring (fun ds G R h => ?_) (fun cdv A outer s H E ds G R hr h => ?_)
  · obtain ⟨F, l, m, r, rfl, _⟩ := h; rfl
  obtain ⟨q, l, m, r, rfl, gd, I, J, T, hR⟩ := h
  have hu : (A.deeper (envOfC "_law_is_ring" (defScope s_law_is_ring) s.heap.objs.size f cdv)).units + 20 < cLine := by have := hr.units; omega
  have hu9 : (A.deeper (envOfC "_law_is_ring" (defScope s_law_is_ring) s.heap.objs.size f cdv)).units + 9 < cLine := by omega
  have nd := gd.nodup
  have hp := pf_inv nd I
  have hq := pf_inv nd J
  have h24 := gd.len
  obtain ⟨x, k, hx, hk, h1, er, hmin⟩ := T.ex
  have hlen : r.length = 2 * k := by rw [er, ring_len]
  have hsh : r.length ≤ q.length := by rw [er]; exact ring_short nd I J hx hk
  have at0 : ∀ {i}, i < k → r[2 * i]? = some (itG (pfM l) (pfM m) x i) := fun {i} h => by rw [er]; exact ring_at0 h
  have at1 : ∀ {i}, i < k → r[2 * i + 1]? = some (pfM l (itG (pfM l) (pfM m) x i)) := fun {i} h => by rw [er]; exact ring_at1 h
  have at2 : ∀ {i}, i < k → (r ++ r)[2 * i + 2]? = some (itG (pfM l) (pfM m) x (i + 1)) := fun {i} h => by
    by_cases e : i + 1 < k
    · rw [List.getElem?_append_left (by omega)]
      exact at0 e
    · rw [List.getElem?_append_right (by omega), show 2 * i + 2 - r.length = 2 * 0 by omega, at0 (by omega)]
      have : i + 1 = k := by omega
      rw [this, hk.back]
      rfl
  have ixs : ∀ {G : Gs} {ρ : Rho} {e1 e2 : Expr} {p : Pos} {L : List Sq} {i : Nat} {z : Sq} {X : Cx}, L[i]? = some z → PX X ρ G e1 (.lst (L.map sq)) → PX X ρ G e2 (.int (i : Int)) → PlainIx e2 → PX X ρ G (.Subscript e1 e2 p) (sq z) := fun h1 h2 h3 h4 => px_ixL h2 h3 (atI_map sq (atI_nat h1)) (hs := h4)
  have lenr : ∀ G : Gs, lenD G (ringD r) = some r.length := fun G => by simp [lenD, ringD]
  refine wss_if (pxw_or (p := false) (q := false) ?_ (fun _ => pxw_or (p := false) (q := false) ?_ (fun _ => pxw_or (p := false) (q := false) ?_ (fun _ => pxw_or1 (p := false) ?_)))).t (fun hc => absurd hc (by decide)) (fun _ => wss_nil ?_)
  · exact PXT.cast (pxt_not (pxt_val (px_isi (T := "list") (T' := "list") mi mli (px_var 0 rfl)))) rfl
  · refine PXT.cast (pxt_c (pxc_lt (px_len (n := r.length) rfl ml (px_var 0 rfl) (lenr _)) px_int)) ?_
    exact decide_eq_false (by omega)
  · refine PXT.cast (pxt_c (pxc_eqI (px_mod (px_len (n := r.length) rfl ml (px_var 0 rfl) (lenr _)) px_int (by decide)) px_int)) ?_
    exact beq_false_of_ne (by omega)
  · refine PXT.cast (pxt_c (pxc_neD hu9 (ixs (z := x) (i := 0) (at0 (i := 0) hk.pos) (px_var 0 rfl) px_int (by intro _ _; rfl)) (px_minSqL rfl hu mn (px_var 0 rfl) (at0 (i := 0) hk.pos) hmin) rfl (plain_sq _ 8) (plain_sq _ 8))) ?_
    rw [eqD_sq]
    simp [itG]
  refine wss_for (l := rangeD2 0 k) (f := bName 3) (fun i ρ' G' => (∃ x3, ρ' = [some (ringD r), some (lay l), some (lay m), x3]) ∧ G' = G) PassesOwn.never rfl
    (wi_range3 k mr px_int (px_len (n := r.length) rfl ml (px_var 0 rfl) (lenr _)) px_int ⟨by omega, by omega, by omega, by omega⟩ ⟨rfl, ⟨none, rfl⟩, rfl⟩) (pgd_name 3 sc_law_is_ring.nd) ?_ ?_
  · rintro i dd ρ' G' hd ⟨⟨x3, rfl⟩, rfl⟩
    obtain ⟨hi, rfl⟩ := rangeD2_get hd
    have ek : (0 : Int) + (i : Nat) * 2 = ((2 * i : Nat) : Int) := by omega
    have ek1 : ((2 * i : Nat) : Int) + 1 = ((2 * i + 1 : Nat) : Int) := by omega
    have ek2 : ((2 * i : Nat) : Int) + 2 = ((2 * i + 2 : Nat) : Int) := by omega
    have hiF := it_mem hp hq hx i
    have hi2F := it_mem hp hq hx (i + 1)
    have e0 : pfM m (itG (pfM l) (pfM m) x (i + 1)) = pfM l (itG (pfM l) (pfM m) x i) := hq.inv _ (hp.mem _ hiF)
    have in1 : stM (itG (pfM l) (pfM m) x i) (pfM l (itG (pfM l) (pfM m) x i)) ∈ l := pf_in nd I hiF
    have in2 : stM (itG (pfM l) (pfM m) x (i + 1)) (pfM m (itG (pfM l) (pfM m) x (i + 1))) ∈ m := pf_in nd J hi2F
    have ne1 : itG (pfM l) (pfM m) x i ≠ pfM l (itG (pfM l) (pfM m) x i) := fun e => by
      have := hp.col _ hiF
      rw [← e] at this
      cases hh : colB (itG (pfM l) (pfM m) x i) <;> rw [hh] at this <;> cases this
    have ne2 : pfM l (itG (pfM l) (pfM m) x i) ≠ itG (pfM l) (pfM m) x (i + 1) := fun e => by
      have := hq.col _ hi2F
      rw [e0, e] at this
      cases hh : colB (itG (pfM l) (pfM m) x (i + 1)) <;> rw [hh] at this <;> cases this
    rw [ek]
    refine ⟨_, rfl, ?_⟩
    refine wss_if (p := false) ?_ (fun hc => absurd hc (by decide)) (fun _ => wss_nil ?_)
    · refine PXT.cast (pxt_c (pxc_notInS hu9 (we_df FP hr (pxs_cons (ixs (at0 hi) (px_var 0 rfl) (px_var 3 rfl) (by intro _ _; rfl)) (pxs_cons (ixs (at1 hi) (px_var 0 rfl) (PX.cast (px_add (px_var 3 rfl) px_int) (by rw [ek1])) (by intro _ _; rfl)) pxs_nil)) ⟨_, _, rfl, ne1, rfl, rfl⟩) (px_var 1 rfl) (.inl rfl) (plain_stone _) (plain_stones l))) ?_
      rw [any_stone]
      have : l.contains (stM (itG (pfM l) (pfM m) x i) (pfM l (itG (pfM l) (pfM m) x i))) = true := by simpa using in1
      rw [this]
      rfl
    refine wss_if (p := false) ?_ (fun hc => absurd hc (by decide)) (fun _ => wss_nil (wss_nil ⟨⟨_, rfl⟩, rfl⟩))
    · refine PXT.cast (pxt_c (pxc_notInS hu9 (we_df FP hr (pxs_cons (ixs (at1 hi) (px_var 0 rfl) (PX.cast (px_add (px_var 3 rfl) px_int) (by rw [ek1])) (by intro _ _; rfl)) (pxs_cons (ixs (at2 hi) (PX.cast (px_cat (px_var 0 rfl) (px_var 0 rfl) ?_) (by rw [List.map_append])) (PX.cast (px_add (px_var 3 rfl) px_int) (by rw [ek2])) (by intro _ _; rfl)) pxs_nil)) ⟨_, _, rfl, ne2, rfl, rfl⟩) (px_var 2 rfl) (.inl rfl) (plain_stone _) (plain_stones m))) ?_
      · rw [List.length_map]; exact sz (by omega)
      · rw [any_stone]
        have : m.contains (stM (pfM l (itG (pfM l) (pfM m) x i)) (itG (pfM l) (pfM m) x (i + 1))) = true := by
          rw [← e0, stM_comm]
          simpa using in2
        rw [this]
        rfl
  · rintro ρ' G' ⟨⟨x3, rfl⟩, rfl⟩
    refine wss_ret (px_c (pxc_eqI (px_lenSet ml ms hu9 rfl (px_var 0 rfl) fun y hy => board_mem (gd.inn y (T.sub nd I J y hy))) (px_len (n := r.length) rfl ml (px_var 0 rfl) (lenr _)))) ?_
    have rn : r.Nodup := by rw [er]; exact ring_nd hp hq hx hk
    rw [ddup_len rn, beq_self_eq_true]
    exact hR
theorem ok_law (F : Fun K "law" "law" s_law f fd) (mi : mg "isinstance" = none) (mli : mg "list" = none) (ml : mg "len" = none) (mse : mg "set" = none) (mso : mg "sorted" = none) (FF : Df P w K mg base "_law_floor" P_law_floor 2 spFloor) (FC : Df P w K mg base "_law_cell" P_law_cell 1 spCell) (FA : Df P w K mg base "_law_all" P_law_all 15 spAll) (FR : Df P w K mg base "rings" P_rings 2 spRings) (FIR : Df P w K mg base "_law_is_ring" P_law_is_ring 2 spIsRing) (FO : Df P w K mg base "laid_otherwise" P_laid_otherwise 2 spOther) (FI : Df P w K mg base "_law_is_laying" P_law_is_laying 2 spIsLay) : FnOk P w K mg base CX0 16 f fd P_law (liftG K spTrue) := by
  refine fn_d (k := 15) F sc_law (fun ds G R h => ?_) (fun cdv A outer s H E ds G R hr h => ?_)
  · obtain ⟨ns, rfl, _⟩ := h; rfl
  obtain ⟨ns, rfl, hR⟩ := h
  have hu20 : (A.deeper (envOfC "law" (defScope s_law) s.heap.objs.size f cdv)).units + 20 < cLine := by have := hr.units; omega
  have hu : (A.deeper (envOfC "law" (defScope s_law) s.heap.objs.size f cdv)).units + 9 < cLine := by omega
  refine wss_setE 1 sc_law.nd (we_df FF (hr.mono (by omega)) (pxs_cons (px_var 0 rfl) (pxs_cons px_int pxs_nil)) ⟨ns, 3, rfl, fun q gd => ?_⟩)
  refine wss_setE 2 sc_law.nd (we_df FA (hr.mono (by omega)) (pxs_cons (px_var 1 rfl) pxs_nil) ⟨q, rfl, gd.ne, gd.up, gd.len, ?_⟩)
  refine wss_if (p := (allM q).isEmpty) ?_ (fun hp => wss_ret px_bl hR) (fun hp => wss_nil ?_)
  · refine PXT.cast (pxt_not (pxt_truth (p := !(allM q).isEmpty) (px_var 2 rfl) ?_)) (Bool.not_not _)
    show some (!((allM q).map lay).isEmpty) = _
    rw [List.isEmpty_map]
  have hne : allM q ≠ [] := by rintro h; rw [h] at hp; cases hp
  have hpos : 0 < (allM q).length := List.length_pos_iff.mpr hne
  have pickL : ∀ c : Int, ∃ l, IsLay q l ∧ atI ((allM q).map lay) (c % ((allM q).length : Int)) = some (lay l) := by
    intro c
    have h1 := Int.emod_nonneg c (b := ((allM q).length : Int)) (by omega)
    have h2 := Int.emod_lt_of_pos c (b := ((allM q).length : Int)) (by omega)
    have hlt : (c % ((allM q).length : Int)).toNat < (allM q).length := by omega
    obtain ⟨l, hl⟩ : ∃ l, (allM q)[(c % ((allM q).length : Int)).toNat]? = some l := ⟨_, List.getElem?_eq_getElem hlt⟩
    refine ⟨l, (mem_all gd.up).mp (List.mem_of_getElem? hl), ?_⟩
    have e : c % ((allM q).length : Int) = (((c % ((allM q).length : Int)).toNat : Nat) : Int) := by omega
    rw [e]
    exact atI_map lay (atI_nat hl)
  obtain ⟨l, I, hatl⟩ := pickL (cellN ns 0)
  obtain ⟨m, J, hatm⟩ := pickL (cellN ns 1)
  have nd := gd.nodup
  have h24 := gd.len
  have hll : ∀ {n}, IsLay q n → n.length ≤ 24 := fun {n} z => by have := cov_len z.toCov; omega
  refine wss_set 3 sc_law.nd (px_ixL (px_var 2 rfl) (px_mod (we_df FC (hr.mono (by omega)) (pxs_cons (px_var 0 rfl) (pxs_cons px_int pxs_nil)) ⟨ns, 0, rfl, rfl, rfl⟩) (px_len (n := (allM q).length) rfl ml (px_var 2 rfl) (by simp [lenD])) (by omega)) hatl) ?_
  refine wss_set 4 sc_law.nd (px_ixL (px_var 2 rfl) (px_mod (we_df FC (hr.mono (by omega)) (pxs_cons (px_var 0 rfl) (pxs_cons px_int pxs_nil)) ⟨ns, 1, rfl, rfl, rfl⟩) (px_len (n := (allM q).length) rfl ml (px_var 2 rfl) (by simp [lenD])) (by omega)) hatm) ?_
  refine wss_setE 5 sc_law.nd (we_df FR (hr.mono (by omega)) (pxs_cons (px_var 3 rfl) (pxs_cons (px_var 4 rfl) pxs_nil)) ⟨q, l, m, rfl, gd.up, gd.len, I, J, fun T O => ?_⟩)
  have Tsub : ∀ x ∈ T.flatten, x ∈ q := fun x hx => by
    obtain ⟨r, hr', hxr⟩ := List.mem_flatten.mp hx
    exact (O.told r hr').sub nd I J x hxr
  have rlen : ∀ r ∈ T, 3 ≤ r.length ∧ r.length ≤ 24 := fun r hr' => by
    obtain ⟨x, k, hx, hk, h1, er, _⟩ := (O.told r hr').ex
    have h2 := ring_short nd I J hx hk
    rw [← er] at h2
    have h3 : r.length = 2 * k := by rw [er, ring_len]
    omega
  have Tlen : T.length ≤ 24 := by
    have h := nodup_le O.nd Tsub
    have : ∀ T : List (List Sq), (∀ r ∈ T, 3 ≤ r.length) → T.length ≤ T.flatten.length := by
      intro T
      induction T with
      | nil => intro _; exact Nat.le_refl _
      | cons a T ih =>
        intro h
        have h1 := h a (List.mem_cons_self ..)
        have h2 := ih fun r hr => h r (List.mem_cons_of_mem _ hr)
        rw [List.length_cons, List.flatten_cons, List.length_append]
        omega
    have := this T fun r hr => (rlen r hr).1
    omega
  refine wss_if (pxw_or (p := false) (q := false) ?_ (fun _ => pxw_or1 (p := false) ?_)).t (fun hc => absurd hc (by decide)) (fun _ => wss_nil ?_)
  · exact PXT.cast (pxt_not (pxt_val (px_isi (T := "list") (T' := "list") mi mli (px_var 5 rfl)))) rfl
  · refine pxt_truth (px_compF (Nc := C_law_0) (caps := Q_law_0) (l := T.map ringD) (f := bName 0) (fun _ => false) id
      (compSc (psc := defScope s_law) (PN := N_law) (by decide +kernel) rfl rfl) rfl
      (wi_list (px_var 5 rfl) ⟨rfl, rfl⟩)
      (fun C s' H' fp => pgd_name 0 (show C_law_0.Nodup by decide +kernel)) (bName_le rfl) (by rw [List.length_map]; omega) ?_) ?_
    · intro C s' H' fp G2 d hd kn
      obtain ⟨r, hr', rfl⟩ := List.mem_map.mp hd
      exact ⟨_, rfl, PXT.cast (pxt_not (pxt_val (we_df FIR (hr.mono (by omega)) (pxs_cons (px_var 0 rfl) (pxs_cons (px_var 1 rfl) (pxs_cons (px_var 2 rfl) pxs_nil))) ⟨q, l, m, r, rfl, gd, I, J, O.told r hr', rfl, rfl⟩))) rfl, fun h => absurd h (by decide)⟩
    · rw [List.filter_eq_nil_iff.mpr (fun _ _ => Bool.false_ne_true)]; rfl
  refine wss_setM 6 (Nc := C_law_1) (caps := Q_law_1) (l := T.map ringD) (f := bName 0) (via ringD fun r => sq (r.getD 0 (0, 0))) sc_law.nd
    (compSc (psc := defScope s_law) (PN := N_law) (by decide +kernel) rfl rfl) rfl
    (wi_list (px_var 5 rfl) ⟨rfl, rfl⟩)
    (fun C s' H' fp => pgd_name 0 (show C_law_1.Nodup by decide +kernel)) (bName_le rfl) (by rw [List.length_map]; omega) ?_ ?_
  · intro C s' H' fp G2 d hd kn
    obtain ⟨r, hr', rfl⟩ := List.mem_map.mp hd
    rw [via_eq ringD_inj]
    have := (rlen r hr').1
    exact ⟨_, rfl, px_ixL (l := r.map sq) (px_var 0 rfl) px_int (atI_at (k := 0) (by omega))⟩
  have efst : T.map (fun r => sq (r.getD 0 (0, 0))) = (T.map fun r => r.getD 0 (0, 0)).map sq := by rw [List.map_map]; rfl
  rw [map_via ringD_inj, efst]
  refine wss_set 7 sc_law.nd (px_lst pxs_nil) ?_
  refine wss_for (l := T.map ringD) (f := bName 8) (fun i ρ' G' => (∃ x8, ρ' = [some (.scr ns), some (fl q), some (.lst ((allM q).map lay)), some (lay l), some (lay m), some (ringsD T), some (.lst ((T.map fun r => r.getD 0 (0, 0)).map sq)), some (.lst ((T.take i).flatten.map sq)), x8, none, none, none, none]) ∧ G' = G) PassesOwn.never rfl
    (wi_list (px_var 5 rfl) ⟨rfl, ⟨none, rfl⟩, rfl⟩) (pgd_name 8 sc_law.nd) ?_ ?_
  · rintro i dd ρ' G' hd ⟨⟨x8, rfl⟩, rfl⟩
    rw [List.getElem?_map] at hd
    obtain ⟨r, hr', rfl⟩ := Option.map_eq_some_iff.mp hd
    have hb := flat_le O.nd Tsub i
    have hrl := (rlen r (List.mem_of_getElem? hr')).2
    refine ⟨_, rfl, ?_⟩
    refine wss_set 7 sc_law.nd (d := .lst ((T.take (i + 1)).flatten.map sq)) (PX.cast (px_cat (px_var 7 rfl) (px_var 8 rfl) (by rw [List.length_map, List.length_map]; exact sz (by omega))) (by rw [flat_take T i hr', List.map_append])) (wss_nil ⟨⟨_, rfl⟩, rfl⟩)
  rintro ρ' G' ⟨⟨x8, rfl⟩, rfl⟩
  rw [List.length_map, List.take_length]
  have hTl : T.flatten.length ≤ 24 := Nat.le_trans (nodup_le O.nd Tsub) h24
  refine wss_if (pxw_or (p := false) (q := false) ?_ (fun _ => pxw_or1 (p := false) ?_)).t (fun hc => absurd hc (by decide)) (fun _ => wss_nil ?_)
  · refine PXT.cast (pxt_c (pxc_neD hu (px_var 6 rfl) (px_sortedT TSq (T.map fun r => r.getD 0 (0, 0)) hu20 mso (px_var 6 rfl) (.inl rfl) (.inl fun x => ⟨_, _, rfl⟩)) rfl (plain_sqsD _) (plain_sqsD _))) ?_
    have e : TSq.sort (T.map fun r => r.getD 0 (0, 0)) = T.map fun r => r.getD 0 (0, 0) := TSq.uniq (TSq.sort_perm _) (TSq.sort_sorted _) (up_sorted O.up)
    rw [e]
    show (!eqD (.lst ((T.map fun r => r.getD 0 (0, 0)).map sq)) (.lst ((T.map fun r => r.getD 0 (0, 0)).map sq))) = false
    rw [eqD_sqs12]
    rfl
  · refine PXT.cast (pxt_c (pxc_neI (px_lenSet ml mse hu rfl (px_var 7 rfl) fun y hy => board_mem (gd.inn y (Tsub y hy))) (px_len (n := T.flatten.length) rfl ml (px_var 7 rfl) (by simp only [lenD, List.length_map])))) ?_
    rw [ddup_len O.nd]
    simp
  refine wss_if (p := false) ?_ (fun hc => absurd hc (by decide)) (fun _ => wss_nil ?_)
  · refine pxt_truth (px_compF (Nc := C_law_2) (caps := Q_law_2) (l := l.map stone) (f := bName 0) (via stone fun t => !(T.flatten.contains t.1) && !(m.contains t)) id
      (compSc (psc := defScope s_law) (PN := N_law) (by decide +kernel) rfl rfl) rfl
      (wi_tup (px_var 3 rfl) ⟨rfl, rfl⟩)
      (fun C s' H' fp => pgd_name 0 (show C_law_2.Nodup by decide +kernel)) (bName_le rfl) (by rw [List.length_map]; have := hll I; omega) ?_) ?_
    · intro C s' H' fp G2 d hd kn
      obtain ⟨t, ht, rfl⟩ := List.mem_map.mp hd
      rw [via_eq stone_inj, ← any_stone, ← any_sq]
      exact ⟨_, rfl, (pxw_and (pxt_c (pxc_notInS hu (px_ixT (d := sq t.1) (px_var 0 rfl) px_int rfl) (px_var 1 rfl) (.inr (.inl rfl)) (plain_sqD t.1) (plain_sqsD _))) fun _ => pxw_and1 (pxt_c (pxc_notInS hu (px_var 0 rfl) (px_var 2 rfl) (.inl rfl) (plain_stone t) (plain_stones m)))).t, fun _ => px_var 0 rfl⟩
    · rw [fil_via' stone_inj]
      have e : (l.filter fun t => !(T.flatten.contains t.1) && !(m.contains t)) = [] := by
        rw [List.filter_eq_nil_iff]
        intro t ht hc
        rw [Bool.and_eq_true] at hc
        have h1 : t.1 ∉ T.flatten := by simpa using hc.1
        have h2 : t ∉ m := by simpa using hc.2
        have hF := (lay_in2 I ht).1
        have e1 := O.rest t.1 hF h1
        have e2 := pf_in nd J hF
        unfold stP at e2
        rw [← e1, (pf_st nd I ht).1, stM_lt (I.st t ht).1] at e2
        exact h2 e2
      rw [e]
      rfl
  refine wss_set 9 sc_law.nd (px_var 3 rfl) ?_
  refine wss_set 10 sc_law.nd (px_var 4 rfl) ?_
  refine wss_for (l := T.map ringD) (f := bName 8) (fun i ρ' G'' => (∃ x8 x11 x12 n1 n2, Half q l m (T.take i).flatten n1 ∧ Half q m l (T.take i).flatten n2 ∧ ρ' = [some (.scr ns), some (fl q), some (.lst ((allM q).map lay)), some (lay l), some (lay m), some (ringsD T), some (.lst ((T.map fun r => r.getD 0 (0, 0)).map sq)), some (.lst (T.flatten.map sq)), x8, some (lay n1), some (lay n2), x11, x12]) ∧ G'' = G') PassesOwn.never rfl
    (wi_list (px_var 5 rfl) ⟨rfl, ⟨_, _, _, l, m, half0 nd I, half0 nd J, rfl⟩, rfl⟩) (pgd_name 8 sc_law.nd) ?_ ?_
  · rintro i dd ρ' G' hd ⟨⟨x8, x11, x12, n1, n2, H1, H2, rfl⟩, rfl⟩
    rw [List.getElem?_map] at hd
    obtain ⟨r, hr', rfl⟩ := Option.map_eq_some_iff.mp hd
    have hrT := List.mem_of_getElem? hr'
    have hrl := rlen r hrT
    have off : ∀ x ∈ r, x ∉ (T.take i).flatten := by
      have h := O.nd
      have e : T.flatten = ((T.take i).flatten ++ r) ++ (T.drop (i + 1)).flatten := by rw [← flat_take T i hr', ← List.flatten_append, List.take_append_drop]
      rw [e, List.nodup_append, List.nodup_append] at h
      exact fun x hx hx2 => h.1.2.2 x hx2 x hx rfl
    obtain ⟨S1, eb⟩ := half_step nd I J H1 (O.told r hrT) off
    have S2 := other_step nd I J H2 (O.told r hrT) off
    have z1 := hll H1.lay
    have z2 := hll H2.lay
    have z3 := hll S1.lay
    refine ⟨_, rfl, ?_⟩
    refine wss_set 11 sc_law.nd (px_listL rfl mli Boot.«list» (px_var 8 rfl)) ?_
    refine wss_set 12 sc_law.nd (px_var 9 rfl) ?_
    refine wss_setE 9 sc_law.nd (we_df FO (hr.mono (by omega)) (pxs_cons (px_var 9 rfl) (pxs_cons (px_var 11 rfl) pxs_nil)) ⟨n1, r, rfl, by omega, by omega, by omega, ?_⟩)
    refine wss_setE 10 sc_law.nd (we_df FO (hr.mono (by omega)) (pxs_cons (px_var 10 rfl) (pxs_cons (px_var 11 rfl) pxs_nil)) ⟨n2, r, rfl, by omega, by omega, by omega, ?_⟩)
    refine wss_if (pxw_or (p := false) (q := false) ?_ (fun _ => pxw_or (p := false) (q := false) ?_ (fun _ => pxw_or1 (p := false) ?_))).t (fun hc => absurd hc (by decide)) (fun _ => wss_nil (wss_nil ⟨⟨_, _, _, otherM n1 r, otherM n2 r, ?_, ?_, rfl⟩, rfl⟩))
    · exact PXT.cast (pxt_not (pxt_val (we_df FI (hr.mono (by omega)) (pxs_cons (px_var 1 rfl) (pxs_cons (px_var 9 rfl) pxs_nil)) ⟨q, _, rfl, gd.up, gd.len, S1.lay, rfl, rfl⟩))) rfl
    · refine PXT.cast (pxt_c (pxc_neD hu (we_df FO (hr.mono (by omega)) (pxs_cons (px_var 9 rfl) (pxs_cons (px_var 11 rfl) pxs_nil)) ⟨otherM n1 r, r, rfl, by omega, by omega, by omega, rfl, rfl⟩) (px_var 12 rfl) rfl (plainD_mono (by decide) (plain_lay _)) (plainD_mono (by decide) (plain_lay _)))) ?_
      rw [eb, eqD_lay12]
      rfl
    · refine PXT.cast (pxt_c (pxc_neD hu (px_var 11 rfl) (px_var 8 rfl) rfl (plain_sqsD r) (plain_sqsD r))) ?_
      show (!eqD (ringD r) (ringD r)) = false
      rw [show eqD (ringD r) (ringD r) = true from eqL_sqs r]
      rfl
    · rw [flat_take T i hr']; exact S1
    · rw [flat_take T i hr']; exact S2
  · rintro ρ' G' ⟨⟨x8, x11, x12, n1, n2, H1, H2, rfl⟩, rfl⟩
    rw [List.length_map, List.take_length] at H1 H2
    have e1 := half_end nd J H1 O.rest
    have e2 := half_end nd I H2 fun x hx hn => (O.rest x hx hn).symm
    subst e1 e2
    refine wss_ret (px_and (p := true) (q := true) (PX.cast (px_c (pxc_eq hu (px_var 9 rfl) (px_var 4 rfl) (plainD_mono (by decide) (plain_lay _)) (plainD_mono (by decide) (plain_lay _)))) ?_) fun _ => px_one (PX.cast (px_c (pxc_eq hu (px_var 10 rfl) (px_var 3 rfl) (plainD_mono (by decide) (plain_lay _)) (plainD_mono (by decide) (plain_lay _)))) ?_)) hR
    · rw [eqD_lay12]
    · rw [eqD_lay12]
end
end TF
--
namespace TF
open PySem PySem.Spec L2
open PyProof.Rows hiding St RelV
section
variable {P : Program} {w : World} {K : PySem.W.Frag} {mg : Str → Option Value} {base : Heap} {f : Addr} {fd : FuncData}
theorem ok_law_cell (F : Fun K "_law_cell" "_law_cell" s_law_cell f fd) (ml : mg "len" = none) : FnOk P w K mg base CX0 1 f fd P_law_cell (liftG K spCell) := by
  refine fn_d (k := 0) F sc_law_cell (fun ds G R h => ?_) (fun cdv A outer s H E ds G R hr h => ?_)
  · obtain ⟨ns, k, rfl, _⟩ := h; rfl
  obtain ⟨ns, k, rfl, hR⟩ := h
  refine wss_if (pxt_c (pxc_lt (px_var 1 rfl) (px_len rfl ml (px_var 0 rfl) rfl))) (fun hp => ?_) (fun hp => ?_)
  · have hlt : k < ns.length := by have := of_decide_eq_true hp; omega
    refine wss_ret (px_ixS (px_var 0 rfl) (px_var 1 rfl) (atI_nat (List.getElem?_eq_getElem hlt))) ?_
    have : cellN ns k = ns[k] := by unfold cellN; rw [List.getD_eq_getElem?_getD, List.getElem?_eq_getElem hlt]; rfl
    rw [← this]; exact hR
  · refine wss_nil (wss_ret px_int ?_)
    have hge : ns.length ≤ k := by have := of_decide_eq_false hp; omega
    have : cellN ns k = 0 := by unfold cellN; rw [List.getD_eq_getElem?_getD, List.getElem?_eq_none hge]; rfl
    rw [this] at hR; exact hR
theorem ok_law_mix (F : Fun K "_law_mix" "_law_mix" s_law_mix f fd) : FnOk P w K mg base CX0 1 f fd P_law_mix (liftG K spMix) := by
  refine fn_d (k := 0) F sc_law_mix (fun ds G R h => ?_) (fun cdv A outer s H E ds G R hr h => ?_)
  · obtain ⟨c, p, m, rfl, _⟩ := h; rfl
  obtain ⟨c, p, m, rfl, hp, hm, hR⟩ := h
  exact wss_ret (px_mod (px_mod (px_mul (px_var 0 rfl) px_int (.inr (by decide))) (px_var 1 rfl) hp) (px_var 2 rfl) hm) hR
theorem px_cellE {X : Cx} {ρ : Rho} {G : Gs} {pos p : Pos} {ns : List Int} {a b : Expr} {k : Nat} (FL : Df X.prog X.w X.K X.mg X.base "_law_cell" P_law_cell 1 spCell) (hr : Room 1 X.A) (ha : PX X ρ G a (.scr ns)) (hb : PX X ρ G b (.int (k : Nat))) (hg : Gl X "_law_cell" := by rfl)
    (he : starEach (a :: [b]) X.env = (false, eval a X.env) :: starEach [b] X.env := by rfl) (he2 : starEach [b] X.env = (false, eval b X.env) :: starEach [] X.env := by rfl) (hpl : (backTo pos (starEach [b] X.env)).any (·.1) = false := by rfl) : PX X ρ G (.Call (.Name "_law_cell" p) [a, b] [] pos) (.int (cellN ns k)) :=
  we_df FL hr (pxs_cons ha (pxs_cons hb pxs_nil he2) he) ⟨ns, k, rfl, rfl, rfl⟩ hg (by decide) he hpl
theorem px_mixE {X : Cx} {ρ : Rho} {G : Gs} {pos p : Pos} {a b c : Expr} {x y : Int} {m n : Nat} (FM : Df X.prog X.w X.K X.mg X.base "_law_mix" P_law_mix 1 spMix) (hr : Room 1 X.A) (ha : PX X ρ G a (.int x)) (hb : PX X ρ G b (.int y)) (hc : PX X ρ G c (.int (m : Nat))) (hy : 0 < y) (hm : 0 < m) (hv : mixI x y m = (n : Nat)) (hg : Gl X "_law_mix" := by rfl)
    (he : starEach [a, b, c] X.env = (false, eval a X.env) :: starEach [b, c] X.env := by rfl) (he2 : starEach [b, c] X.env = (false, eval b X.env) :: starEach [c] X.env := by rfl) (he3 : starEach [c] X.env = (false, eval c X.env) :: starEach [] X.env := by rfl) (hpl : (backTo pos (starEach [b, c] X.env)).any (·.1) = false := by rfl) : PX X ρ G (.Call (.Name "_law_mix" p) [a, b, c] [] pos) (.int (n : Nat)) :=
  we_df FM hr (pxs_cons ha (pxs_cons hb (pxs_cons hc pxs_nil he3) he2) he) ⟨x, y, m, rfl, hy, by omega, by rw [hv]; exact ⟨rfl, rfl⟩⟩ hg (by decide) he hpl
theorem ok_law_floor (F : Fun K "_law_floor" "_law_floor" s_law_floor f fd) (ml : mg "len" = none) (mr : mg "range" = none) (mt : mg "tuple" = none) (mx : mg "max" = none) (mn : mg "min" = none)
    (FL : Df P w K mg base "_law_cell" P_law_cell 1 spCell) (FM : Df P w K mg base "_law_mix" P_law_mix 1 spMix) : FnOk P w K mg base CX0 2 f fd P_law_floor (liftG K spFloor) := by
  refine fn_d (k := 1) F sc_law_floor (fun ds G R h => ?_) (fun cdv A outer s H E ds G R hr h => ?_)
  · obtain ⟨ns, k, rfl, _⟩ := h; rfl
  obtain ⟨ns, k, rfl, hR⟩ := h
  have hu : (A.deeper (envOfC "_law_floor" (defScope s_law_floor) s.heap.objs.size f cdv)).units + 9 < cLine := by have := hr.units; omega
  obtain ⟨r0, r0l, r0e⟩ := mix_nat (cellN ns k) 9973 4 (by decide)
  obtain ⟨w0, w0l, w0e⟩ := mix_nat (cellN ns k) 9967 5 (by decide)
  obtain ⟨b0, b0l, b0e⟩ := mix_nat (cellN ns k) 9901 8 (by decide)
  obtain ⟨q0, q0l, q0e⟩ := mix_nat (cellN ns k) 9887 4 (by decide)
  refine wss_set 2 sc_law_floor.nd (px_cellE FL hr (px_var 0 rfl) (px_var 1 rfl)) ?_
  refine wss_set 3 sc_law_floor.nd (PX.cast (d' := .int ((1 + r0 : Nat) : Int)) (px_add px_int (px_mixE (m := 4) FM hr (px_var 2 rfl) px_int px_int (by decide) (by decide) r0e)) rfl) ?_
  refine wss_set 4 sc_law_floor.nd (PX.cast (d' := .int ((1 + w0 : Nat) : Int)) (px_add px_int (px_mixE (m := 5) FM hr (px_var 2 rfl) px_int px_int (by decide) (by decide) w0e)) rfl) ?_
  refine wss_ifM (fun ρ' G' => G = G' ∧ ∃ r wd : Nat, ShapeOk r wd ∧ ρ' = [some (.scr ns), some (.int k), some (.int (cellN ns k)), some (.int (r : Nat)), some (.int (wd : Nat)), none, none, none, none, none, none, none, none, none])
    (pxt_c (pxc_eqI (px_mixE (m := 8) FM hr (px_var 2 rfl) px_int px_int (by decide) (by decide) b0e) px_int)) (fun hp => ?_) (fun hp => ?_) (fun ρ' G' hM => ?_)
  · obtain ⟨r1, hr1, hs1⟩ : ∃ r1 : Nat, atI [Dat.int 2, .int 3, .int 8, .int 6] ((q0 : Nat) : Int) = some (.int (r1 : Nat)) ∧ 0 < r1 ∧ ShapeOk r1 (24 / r1) := by
      have : q0 = 0 ∨ q0 = 1 ∨ q0 = 2 ∨ q0 = 3 := by omega
      rcases this with rfl | rfl | rfl | rfl
      · exact ⟨2, rfl, by decide, .inr (.inl ⟨rfl, rfl⟩)⟩
      · exact ⟨3, rfl, by decide, .inr (.inr (.inl ⟨rfl, rfl⟩))⟩
      · exact ⟨8, rfl, by decide, .inr (.inr (.inr (.inl ⟨rfl, rfl⟩)))⟩
      · exact ⟨6, rfl, by decide, .inr (.inr (.inr (.inr ⟨rfl, rfl⟩)))⟩
    refine wss_set 3 sc_law_floor.nd (px_ixL (px_lst (pxs_cons px_int (pxs_cons px_int (pxs_cons px_int (pxs_cons px_int pxs_nil))))) (px_mixE (m := 4) FM hr (px_var 2 rfl) px_int px_int (by decide) (by decide) q0e) hr1) ?_
    have hb : r1 ≤ 8 := by rcases hs1.2 with h | h | h | h | h <;> omega
    refine wss_set 4 sc_law_floor.nd (PX.cast (d' := .int ((24 / r1 : Nat) : Int)) (px_fdiv px_int (px_var 3 rfl) ⟨by omega, by omega⟩) rfl) (wss_nil ⟨rfl, r1, 24 / r1, hs1.2, rfl⟩)
  · exact wss_nil ⟨rfl, 1 + r0, 1 + w0, .inl ⟨by omega, by omega, by omega, by omega⟩, rfl⟩
  obtain ⟨rfl, r, wd, hsh, rfl⟩ := hM
  have hr8 : r ≤ 8 ∧ 1 ≤ r := by rcases hsh with h | h | h | h | h <;> omega
  have hw12 : wd ≤ 12 ∧ 1 ≤ wd := by rcases hsh with h | h | h | h | h <;> omega
  obtain ⟨hmul, hpos⟩ := shape_mul hsh
  obtain ⟨dn, dnl, dne⟩ := mix_nat (cellN ns (k + 1)) 9949 (9 - r) (by omega)
  obtain ⟨rt, rtl, rte⟩ := mix_nat (cellN ns (k + 1)) 9941 (max 1 (9 - wd)) (by omega)
  have hrt : rt + min wd 8 ≤ 8 := by omega
  refine wss_set 5 sc_law_floor.nd (px_mixE (m := 9 - r) FM hr (px_cellE (k := k + 1) FL hr (px_var 0 rfl) (PX.cast (px_add (px_var 1 rfl) px_int) rfl)) px_int (PX.cast (px_sub px_int (px_var 3 rfl)) (by congr 1; omega)) (by decide) (by omega) dne) ?_
  refine wss_set 6 sc_law_floor.nd (px_mixE (m := max 1 (9 - wd)) FM hr (px_cellE (k := k + 1) FL hr (px_var 0 rfl) (PX.cast (px_add (px_var 1 rfl) px_int) rfl)) px_int (PX.cast (px_max2 rfl mx px_int (px_sub px_int (px_var 4 rfl))) (by congr 1; omega)) (by decide) (by omega) rte) ?_
  refine wss_set 7 sc_law_floor.nd (px_lst pxs_nil) ?_
  refine wss_for (l := rangeD 0 r) (fun i ρ' G' => G = G' ∧ i ≤ r ∧ ∃ x, ρ' = [some (.scr ns), some (.int k), some (.int (cellN ns k)), some (.int (r : Nat)), some (.int (wd : Nat)), some (.int (dn : Nat)), some (.int (rt : Nat)), some (.lst ((rect i (min wd 8) dn rt).map sq)), x, none, none, none, none, none]) PassesOwn.never rfl
    (wi_range1 rfl mr (px_var 3 rfl) (by omega) (by omega) ⟨by rw [Int.toNat_natCast], rfl, Nat.zero_le _, none, rfl⟩) (pgd_name 8 sc_law_floor.nd) ?_ ?_
  · rintro i dd ρ' G' hd ⟨rfl, hi, x, rfl⟩
    obtain ⟨hlt, rfl⟩ := rangeD_get hd
    refine ⟨_, rfl, ?_⟩
    refine wss_set 7 sc_law_floor.nd (px_cat (px_var 7 rfl) (px_compM (Nc := C_law_floor_0) (caps := Q_law_floor_0) (l := rangeD 0 (min wd 8)) (f := bName 0) (fun x => match x with | .int j => sq ((dn : Int) + (0 + (i : Nat)), (rt : Int) + j) | _ => .non)
      (compSc (psc := defScope s_law_floor) (PN := N_law_floor) (by decide +kernel) rfl rfl) rfl (wi_range1 rfl mr (PX.cast (d' := .int ((min wd 8 : Nat) : Int)) (px_min2 rfl mn (px_var 4 rfl) px_int) (by congr 1; omega)) (by omega) (by omega) ⟨by rw [Int.toNat_natCast], rfl⟩)
      (fun C s' H' fp => pgd_name 0 (show C_law_floor_0.Nodup by decide +kernel)) (bName_le rfl) (by rw [rangeD_len]; omega) ?_) ?_) (wss_nil ⟨rfl, hlt, some (.int (0 + (i : Nat))), ?_⟩)
    · intro C s' H' fp G' x hx _
      obtain ⟨j, _, rfl⟩ := rangeD_mem hx
      exact ⟨_, rfl, px_tup (pxs_cons (px_add (px_var 1 rfl) (px_var 2 rfl)) (pxs_cons (px_add (px_var 3 rfl) (px_var 0 rfl)) pxs_nil))⟩
    · rw [List.length_map, List.length_map, rect_len, rangeD_len]
      have : i * min wd 8 ≤ 8 * 8 := Nat.mul_le_mul (by omega) (by omega)
      exact sz (by omega)
    · refine congrArg (fun z => [some (.scr ns), some (.int k), some (.int (cellN ns k)), some (.int (r : Nat)), some (.int (wd : Nat)), some (.int (dn : Nat)), some (.int (rt : Nat)), some (Dat.lst z), some (.int (0 + (i : Nat))), none, none, none, none, none]) ?_
      rw [rect_succ, List.map_append]
      congr 1
      unfold rangeD
      rw [List.map_map, List.map_map]
      refine List.map_congr_left fun j _ => ?_
      simp [Function.comp, sq]
  rintro ρ' G' ⟨rfl, _, x, rfl⟩
  rw [rangeD_len]
  generalize hL : rect r (min wd 8) dn rt = L
  have hLl : L.length = r * min wd 8 := by rw [← hL, rect_len]
  have gd : ∀ F : List Sq, F.Sublist L → F ≠ [] → Good F := fun F h1 h2 => good_sub (r := r) (w := min wd 8) (d := dn) (e := rt) hmul (by omega) hrt (by rw [hL]; exact h1) h2
  have pl : ∀ l : List Sq, l.length ≤ 6 → (l.map sq).all (plainD 8) = true := fun l _ => plain_sqs l 7
  refine wss_ownL 9 sc_law_floor.nd pxs_nil (fun p hG => ?_)
  obtain ⟨nk, nkl, nke⟩ := mix_nat (cellN ns (k + 2)) 9931 4 (by decide)
  refine wss_for (l := rangeD 0 nk) (fun i ρ' G'' => ∃ (gone : List Sq) (y1 y2 y3 : Option Dat), gone.length ≤ 2 * i ∧ G'' = put G p (.lst (gone.map sq)) ∧ ρ' = [some (.scr ns), some (.int k), some (.int (cellN ns k)), some (.int (r : Nat)), some (.int (wd : Nat)), some (.int (dn : Nat)), some (.int (rt : Nat)), some (.lst (L.map sq)), x, some (.fn p), y1, y2, y3, none]) PassesOwn.never rfl
    (wi_range1 rfl mr (px_mixE (m := 4) FM hr (px_cellE (k := k + 2) FL hr (px_var 0 rfl) (PX.cast (px_add (px_var 1 rfl) px_int) rfl)) px_int px_int (by decide) (by decide) nke) (by omega) (by omega) ⟨by rw [Int.toNat_natCast], [], none, none, none, Nat.le_refl _, rfl, rfl⟩) (pgd_name 10 sc_law_floor.nd) ?_ ?_
  · rintro i dd ρ' G'' hd ⟨gone, y1, y2, y3, hgl, rfl, rfl⟩
    obtain ⟨hlt, rfl⟩ := rangeD_get hd
    refine ⟨_, rfl, ?_⟩
    generalize hseed : cellN ns (k + 3 + i) + 17 * (0 + (i : Int)) * (0 + (i : Int)) = seed
    refine wss_set 11 sc_law_floor.nd (PX.cast (d' := .int seed) (px_add (px_cellE (k := k + 3 + i) FL hr (px_var 0 rfl) (PX.cast (px_add (px_add (px_var 1 rfl) px_int) (px_var 10 rfl)) (by congr 1; omega))) (px_mul (px_mul px_int (px_var 10 rfl) (.inl (by decide))) (px_var 10 rfl) (.inr (by constructor <;> omega)))) (by rw [hseed])) ?_
    obtain ⟨ix, ixl, ixe⟩ := mix_nat seed 9929 (r * min wd 8) hpos
    obtain ⟨c3, c3l, c3e⟩ := mix_nat seed 9923 3 (by decide)
    have hix : ix < L.length := by omega
    refine wss_set 12 sc_law_floor.nd (px_ixL (px_var 7 rfl) (px_mixE (m := r * min wd 8) FM hr (px_var 11 rfl) px_int (PX.cast (px_len rfl ml (px_var 7 rfl) rfl) (by rw [List.length_map, hLl])) (by decide) hpos ixe) (atI_map sq (atI_nat (List.getElem?_eq_getElem hix)))) ?_
    refine wss_append (px_var 9 rfl) (px_var 12 rfl) put_same (by rw [List.length_map]; exact sz1 (by omega)) ?_
    rw [put_put]
    refine wss_if (pxt_c (pxc_gt (px_mixE (m := 3) FM hr (px_var 11 rfl) px_int px_int (by decide) (by decide) c3e) px_int)) (fun hp => ?_) (fun hp => wss_nil (wss_nil ?_))
    · refine wss_append (d := sq (L[ix].1, L[ix].2 + 1)) (px_var 9 rfl) (px_tup (pxs_cons (px_ixT (px_var 12 rfl) px_int rfl) (pxs_cons (px_add (px_ixT (px_var 12 rfl) px_int rfl) px_int) pxs_nil))) put_same (by rw [List.length_append, List.length_map]; exact sz1 (by simp; omega)) (wss_nil (wss_nil ?_))
      rw [put_put]
      refine ⟨gone ++ [L[ix], (L[ix].1, L[ix].2 + 1)], _, _, _, by simp; omega, ?_, rfl⟩
      simp
    · refine ⟨gone ++ [L[ix]], _, _, _, by simp; omega, ?_, rfl⟩
      simp
  rintro ρ' G'' ⟨gone, y1, y2, y3, hgl, rfl, rfl⟩
  rw [rangeD_len] at hgl
  refine wss_set 13 sc_law_floor.nd (PX.cast (d' := fl (L.filter fun q => !gone.contains q)) (px_tupleL rfl mt Boot.«tuple» (px_compF (Nc := C_law_floor_1) (caps := Q_law_floor_1) (l := L.map sq) (f := bName 0) (fun d => !((gone.map sq).any fun e => eqD e d)) id
    (compSc (psc := defScope s_law_floor) (PN := N_law_floor) (by decide +kernel) rfl rfl) rfl (wi_list (px_var 7 rfl) ⟨rfl, rfl⟩)
      (fun C s' H' fp => pgd_name 0 (show C_law_floor_1.Nodup by decide +kernel)) (bName_le rfl) (by rw [List.length_map]; omega) ?_)) ?_) ?_
  · intro C s' H' fp G2 d hd kn
    obtain ⟨q, _, rfl⟩ := List.mem_map.mp hd
    exact ⟨_, rfl, pxt_c (pxc_notInS hu (px_var 0 rfl) (px_var 1 rfl) (.inr (.inr ⟨p, rfl, kn _ _ put_same⟩)) (plain_sq q 7) (pl gone (by omega))), fun _ => px_var 0 rfl⟩
  · rw [fil_sq]
    unfold fl
    congr 3
    funext q
    rw [any_sq]
  generalize hF : (L.filter fun q => !gone.contains q) = F
  have hsub : F.Sublist L := by rw [← hF]; exact List.filter_sublist
  refine wss_if (pxt_truth (px_var 13 rfl) rfl) (fun hp => ?_) (fun hp => wss_nil ?_)
  · refine wss_retE (we_rel (PX.we (px_var 13 rfl) ⟨p, ?_⟩))
    rw [rel_put hG]
    refine hR F (gd F hsub ?_)
    rintro rfl
    simp at hp
  · refine wss_retE (we_rel (PX.we (px_tupleL rfl mt Boot.«tuple» (px_var 7 rfl)) ⟨p, ?_⟩))
    rw [rel_put hG]
    refine hR L (gd L (List.Sublist.refl _) ?_)
    rintro rfl
    simp at hLl
    omega
end
end TF
--
namespace TF
open PySem PySem.Spec L2
open PyProof.Rows hiding St RelV
section
variable {P : Program} {w : World} {K : PySem.W.Frag} {mg : Str → Option Value} {base : Heap} {f : Addr} {fd : FuncData}
theorem ok_law_near (F : Fun K "_law_near" "_law_near" s_law_near f fd) : FnOk P w K mg base CX0 1 f fd P_law_near (liftG K spNear) := by
  refine fn_d (k := 0) F sc_law_near (fun ds G R h => ?_) (fun cdv A outer s H E ds G R hr h => ?_)
  · obtain ⟨q, x, rfl, _⟩ := h; rfl
  obtain ⟨q, x, rfl, hR⟩ := h
  have hu : (A.deeper (envOfC "_law_near" (defScope s_law_near) s.heap.objs.size f cdv)).units + 9 < cLine := by have := hr.units; omega
  refine wss_unpack (f := bPair 2 3) (pgd_pair 2 3 rfl sc_law_near.nd) (px_var 1 rfl) rfl ?_
  refine wss_ret (px_compF (Nc := C_law_near_0) (caps := Q_law_near_0) (l := (nbM x).map sq) (f := bName 0) (fun d => (q.map sq).any fun e => eqD e d) id
    (compSc (psc := defScope s_law_near) (PN := N_law_near) (by decide +kernel) rfl rfl) rfl
    (wi_list (px_lst (pxs_cons (px_tup (pxs_cons (px_sub (px_var 2 rfl) px_int) (pxs_cons (px_var 3 rfl) pxs_nil))) (pxs_cons (px_tup (pxs_cons (px_var 2 rfl) (pxs_cons (px_sub (px_var 3 rfl) px_int) pxs_nil)))
      (pxs_cons (px_tup (pxs_cons (px_var 2 rfl) (pxs_cons (px_add (px_var 3 rfl) px_int) pxs_nil))) (pxs_cons (px_tup (pxs_cons (px_add (px_var 2 rfl) px_int) (pxs_cons (px_var 3 rfl) pxs_nil))) pxs_nil))))) ⟨rfl, rfl⟩)
    (fun C s' H' fp => pgd_name 0 (show C_law_near_0.Nodup by decide +kernel)) (bName_le rfl) (show 4 ≤ 5000 by decide) ?_) ?_
  · intro C s' H' fp G2 d hd kn
    obtain ⟨y, _, rfl⟩ := List.mem_map.mp hd
    exact ⟨_, rfl, pxt_c (pxc_inS hu (px_var 0 rfl) (px_var 1 rfl) (.inl rfl) (plain_sqD y) (plain_sqsD q)), fun _ => px_var 0 rfl⟩
  · rw [fil_sq]
    have : (fun y => (q.map sq).any fun e => eqD e (sq y)) = q.contains := funext fun y => any_sq q y
    rw [this]
    exact hR
end
end TF
--
namespace TF
open PySem PySem.Spec L2
open PyProof.Rows hiding St RelV
section
variable {P : Program} {w : World} {K : PySem.W.Frag} {mg : Str → Option Value} {base : Heap} {f : Addr} {fd : FuncData}
theorem ok_law_every (n : Nat) (F : Fun K "_law_every" "_law_every" s_law_every f fd) (mt : mg "tuple" = none) (FN : Df P w K mg base "_law_near" P_law_near 1 spNear)
    (ih : ∀ m, n = m + 1 → Df P w K mg base "_law_every" P_law_every (m + 2) (spEvery m)) : FnOk P w K mg base CX0 (n + 2) f fd P_law_every (liftG K (spEvery n)) := by
  refine fn_d (k := n + 1) F sc_law_every (fun ds G R h => ?_) (fun cdv A outer s H E ds G R hr h => ?_)
  · obtain ⟨q, kp, kvs, rfl, _⟩ := h; rfl
  obtain ⟨q, kp, kvs, rfl, up, hl, hn, hG, hV, hz, hR⟩ := h
  have hu : (A.deeper (envOfC "_law_every" (defScope s_law_every) s.heap.objs.size f cdv)).units + 9 < cLine := by have := hr.units; omega
  refine wss_if (pxt_not (pxt_truth (p := !q.isEmpty) (px_var 0 rfl) (by cases q <;> rfl))) (fun hp => ?_) (fun hp => wss_nil ?_)
  · have hq : q = [] := by cases q with | nil => rfl | cons _ _ => simp at hp
    subst hq
    refine wss_ret (px_lst (pxs_cons (px_lst pxs_nil) pxs_nil)) ?_
    have := hR kvs hV (by have : 0 < 2 ^ n := Nat.pow_pos (by decide); omega)
    rw [put_self hG] at this
    exact this
  have hne : q ≠ [] := by rintro rfl; simp at hp
  have hlp : 0 < q.length := List.length_pos_iff.mpr hne
  obtain ⟨m, rfl⟩ : ∃ m, n = m + 1 := ⟨n - 1, by omega⟩
  have W := ih m rfl
  have hpow : 0 < 2 ^ m := Nat.pow_pos (by decide)
  have hpow2 : 2 ^ (m + 1) = 2 ^ m + 2 ^ m := by rw [Nat.pow_succ]; omega
  refine wss_ifM (fun ρ' G' => (∃ x2 x3 x4 x5, ρ' = [some (fl q), some (.fn kp), x2, x3, x4, x5]) ∧ ∃ kvs', G' = put G kp (.dct kvs') ∧ ValidE kvs' ∧ kvs'.length + 1 ≤ kvs.length + 2 ^ (m + 1) ∧ lookD kvs' (fl q) = some (rowsD (everyM q)))
    (pxt_c (pxc_dnotin hu (px_var 0 rfl) (px_var 1 rfl) hG (key_fl q) ⟨_, rfl⟩)) (fun hp1 => ?_) (fun hp1 => ?_) (fun ρ' G' hM => ?_)
  · refine wss_set 2 sc_law_every.nd (px_lst pxs_nil) ?_
    refine wss_set 3 sc_law_every.nd (px_ixT (px_var 0 rfl) (px_neg px_int) (last_at hne)) ?_
    have two := near_two up
    refine wss_for (l := (nearM q (lastD q)).map sq) (f := bName 4) (fun i ρ' G' => (∃ x4 x5, ρ' = [some (fl q), some (.fn kp), some (rowsD (((nearM q (lastD q)).take i).flatMap fun o => (everyM (remM q (lastD q) o)).map (· ++ [(o, lastD q)]))), some (sq (lastD q)), x4, x5]) ∧ ∃ kvs', G' = put G kp (.dct kvs') ∧ ValidE kvs' ∧ kvs'.length ≤ kvs.length + i * (2 ^ m - 1)) PassesOwn.never rfl
      (wi_listE (we_df FN (hr.mono (by omega)) (pxs_cons (px_var 0 rfl) (pxs_cons (px_var 3 rfl) pxs_nil)) ⟨q, lastD q, rfl, _, rfl, rfl, ⟨none, none, rfl⟩, kvs, (put_self hG).symm, hV, by simp⟩)) (pgd_name 4 sc_law_every.nd) ?_ ?_
    · rintro i dd ρ' G' hd ⟨⟨x4, x5, rfl⟩, kvs1, rfl, hV1, hl1⟩
      rw [List.getElem?_map] at hd
      obtain ⟨o, ho', rfl⟩ := Option.map_eq_some_iff.mp hd
      have hlt' : i < (nearM q (lastD q)).length := (List.getElem?_eq_some_iff.mp ho').1
      have ho : o ∈ nearM q (lastD q) := List.mem_of_getElem? ho'
      have hl2 := rem_len2 up hne ho
      have hi1 : i * (2 ^ m - 1) ≤ 2 ^ m - 1 := by
        have : i = 0 ∨ i = 1 := by omega
        rcases this with rfl | rfl <;> omega
      refine ⟨_, rfl, ?_⟩
      refine wss_set 5 sc_law_every.nd (PX.cast (d' := fl (remM q (lastD q) o)) (px_tupleL rfl mt Boot.«tuple» (px_compF (Nc := C_law_every_0) (caps := Q_law_every_0) (l := q.map sq) (f := bName 0) (fun d => !(eqD d (sq (lastD q))) && !(eqD d (sq o))) id
        (compSc (psc := defScope s_law_every) (PN := N_law_every) (by decide +kernel) rfl rfl) rfl (wi_tup (px_var 0 rfl) ⟨rfl, rfl⟩)
          (fun C s' H' fp => pgd_name 0 (show C_law_every_0.Nodup by decide +kernel)) (bName_le rfl) (by rw [List.length_map]; omega) ?_)) ?_) ?_
      · intro C s' H' fp G2 d hd kn
        obtain ⟨y, _, rfl⟩ := List.mem_map.mp hd
        exact ⟨_, rfl, (pxw_and (pxt_c (pxc_neD hu (px_var 0 rfl) (px_var 1 rfl) rfl (plain_sq y 8) (plain_sq _ 8))) fun _ => pxw_and1 (pxt_c (pxc_neD hu (px_var 0 rfl) (px_var 2 rfl) rfl (plain_sq y 8) (plain_sq _ 8)))).t, fun _ => px_var 0 rfl⟩
      · rw [fil_sq]
        unfold fl remM
        congr 3
        funext y
        rw [eqD_sq, eqD_sq]
      have hcov := fun r hr => cov_len (every_cov _ (Nat.le_refl _) (rem_up up (lastD q) o) r hr)
      have hlen2 := every_len m (F := remM q (lastD q) o) (by omega) (rem_up up _ _)
      have hm12 : 2 ^ m ≤ 2 ^ 11 := Nat.pow_le_pow_right (by decide) (by omega)
      have h2048 : (2 : Nat) ^ 11 = 2048 := by decide
      have hfl : (((nearM q (lastD q)).take i).flatMap fun o => (everyM (remM q (lastD q) o)).map (· ++ [(o, lastD q)])).length ≤ 2048 := by
        have : i = 0 ∨ i = 1 := by omega
        rcases this with rfl | rfl
        · simp
        · obtain ⟨a, t, e⟩ : ∃ a t, nearM q (lastD q) = a :: t := List.exists_cons_of_ne_nil (List.ne_nil_of_mem ho)
          have ha : a ∈ nearM q (lastD q) := by rw [e]; exact List.mem_cons_self ..
          have hl3 := rem_len2 up hne ha
          have := every_len m (F := remM q (lastD q) a) (by omega) (rem_up up _ _)
          rw [e]
          simp
          omega
      refine wss_setE 2 sc_law_every.nd (we_catE (px_var 2 rfl) (we_compR (Nc := C_law_every_1) (caps := Q_law_every_1) (l := (everyM (remM q (lastD q) o)).map rowD) (f := bName 0) (fun d => match d with | .lst l => .lst (l ++ [stone (o, lastD q)]) | _ => .non)
        (fun G' => ∃ kvs', G' = put G kp (.dct kvs') ∧ ValidE kvs' ∧ kvs'.length ≤ kvs.length + (i + 1) * (2 ^ m - 1))
        (compSc (psc := defScope s_law_every) (PN := N_law_every) (by decide +kernel) rfl rfl) rfl
        (wi_listE (we_df W (hr.mono (by omega)) (pxs_cons (px_var 5 rfl) (pxs_cons (px_var 1 rfl) pxs_nil)) ⟨remM q (lastD q) o, kp, kvs1, rfl, rem_up up _ _, by omega, by omega, put_same, hV1, by omega, fun kvs2 hV2 hl3 => ⟨_, rfl, rfl, kvs2, put_put, hV2, ?_⟩⟩))
        (fun C s' H' fp => pgd_name 0 (show C_law_every_1.Nodup by decide +kernel)) (bName_le rfl) (by rw [List.length_map]; exact sz1 (by omega)) ?_ ?_))
      · have : (i + 1) * (2 ^ m - 1) = i * (2 ^ m - 1) + (2 ^ m - 1) := by rw [Nat.add_mul]; omega
        omega
      · intro C s' H' fp G2 d hd
        obtain ⟨r, hrm, rfl⟩ := List.mem_map.mp hd
        have := hcov r hrm
        exact ⟨_, rfl, px_cat (px_var 0 rfl) (px_lst (pxs_cons (px_tup (pxs_cons (px_var 2 rfl) (pxs_cons (px_var 1 rfl) pxs_nil))) pxs_nil)) (by rw [List.length_map]; exact sz (by simp; omega))⟩
      · rintro G2 ⟨kvs2, rfl, hV2, hl3⟩
        refine ⟨_, rfl, ?_, wss_nil ⟨⟨some (sq o), some (fl (remM q (lastD q) o)), ?_⟩, kvs2, rfl, hV2, hl3⟩⟩
        · rw [List.length_map, List.length_map, List.length_map]; refine sz (Nat.le_trans (Nat.add_le_add hfl (Nat.le_trans hlen2 hm12)) (by decide))
        · refine congrArg (fun z => [some (fl q), some (.fn kp), some z, some (sq (lastD q)), some (sq o), some (fl (remM q (lastD q) o))]) ?_
          rw [List.take_add_one, ho', List.flatMap_append]
          unfold rowsD
          simp only [Option.toList_some, List.flatMap_cons, List.flatMap_nil, List.append_nil, List.map_append, List.map_map, Dat.lst.injEq]
          congr 1
          refine List.map_congr_left fun r _ => ?_
          simp [Function.comp, rowD]
    · rintro ρ' G' ⟨⟨x4, x5, rfl⟩, kvs1, rfl, hV1, hl1⟩
      rw [List.length_map, List.take_length, ← everyM_ne hne] at *
      have hl2 : kvs1.length ≤ kvs.length + 2 * (2 ^ m - 1) := Nat.le_trans hl1 (Nat.add_le_add_left (Nat.mul_le_mul_right _ two) _)
      refine wss_dput (k := fl q) (d := rowsD (everyM q)) hu (px_var 2 rfl) (px_var 1 rfl) (px_var 0 rfl) put_same (key_fl q) ⟨_, rfl⟩ (sz1 (by have : (2 : Nat) ^ 12 = 4096 := rfl; omega)) (wss_nil ⟨⟨_, _, _, _, rfl⟩, ?_⟩)
      rw [put_put]
      exact ⟨_, rfl, hV1.put q, by have := putD_length kvs1 (fl q) (rowsD (everyM q)); omega, lookD_put' _ _ _⟩
  · refine wss_nil ⟨⟨_, _, _, _, rfl⟩, kvs, (put_self hG).symm, hV, by omega, ?_⟩
    have hs : (lookD kvs (fl q)).isSome = true := by
      cases e : (lookD kvs (fl q)).isSome with
      | true => rfl
      | false =>
        have hp2 : (!(lookD kvs (fl q)).isSome) = false := hp1
        rw [e] at hp2
        cases hp2
    obtain ⟨d, hd⟩ := Option.isSome_iff_exists.mp hs
    rw [hd, hV.look hd]
  · obtain ⟨⟨x2, x3, x4, x5, rfl⟩, kvs', rfl, hV', hl', look⟩ := hM
    exact wss_ret (px_dget (k := fl q) hu (px_var 1 rfl) (px_var 0 rfl) put_same (key_fl q) ⟨_, rfl⟩ look) (hR kvs' hV' hl')
theorem ok_law_all (F : Fun K "_law_all" "_law_all" s_law_all f fd) (mt : mg "tuple" = none) (ms : mg "sorted" = none) (W : Df P w K mg base "_law_every" P_law_every 14 (spEvery 12)) : FnOk P w K mg base CX0 15 f fd P_law_all (liftG K spAll) := by
  refine fn_d (k := 14) F sc_law_all (fun ds G R h => ?_) (fun cdv A outer s H E ds G R hr h => ?_)
  · obtain ⟨q, rfl, _⟩ := h; rfl
  obtain ⟨q, rfl, hne, up, hl, hR⟩ := h
  have hu : (A.deeper (envOfC "_law_all" (defScope s_law_all) s.heap.objs.size f cdv)).units + 20 < cLine := by have := hr.units; omega
  have ez := every_len 12 (F := q) (by omega) up
  have h4096 : (2 : Nat) ^ 12 = 4096 := by decide
  have V0 : ValidE [] := fun _ h => nomatch h
  refine wss_ret (px_sortedT TLay ((everyM q).map TSt.sort) (d1 := .lst (((everyM q).map TSt.sort).map lay)) hu ms (we_rel (we_compR (Nc := C_law_all_0) (caps := Q_law_all_0) (l := (everyM q).map rowD) (f := bName 0) (via rowD fun r => lay (TSt.sort r))
    (fun G' => ∃ p kvs, G p = none ∧ G' = put G p (.dct kvs)) (compSc (psc := defScope s_law_all) (PN := N_law_all) (by decide +kernel) rfl rfl) rfl
    (wi_listE (we_dfA W hr (wa_cons (PX.we (px_var 0 rfl) (wa_cons (we_dnew fun p hp => wa_nil ⟨q, p, [], rfl, up, by omega, by omega, put_same, V0, by decide, fun kvs' _ _ => ⟨_, rfl, rfl, p, kvs', hp, put_put⟩⟩))))))
    (fun C s' H' fp => pgd_name 0 (show C_law_all_0.Nodup by decide +kernel)) (bName_le rfl) (by rw [List.length_map]; exact sz1 (by omega)) ?_ ?_)) (.inl rfl) ?_) ?_
  · intro C s' H' fp G2 d hd
    obtain ⟨r, hrm, rfl⟩ := List.mem_map.mp hd
    refine ⟨_, rfl, ?_⟩
    rw [via_eq rowD_inj]
    exact px_tupleL rfl mt Boot.«tuple» (px_sortedT TSt r hu ms (px_var 0 rfl) (.inl rfl) (.inr fun x _ => ⟨_, _, rfl⟩))
  · rintro G' ⟨p, kvs, hp, rfl⟩
    refine ⟨p, ?_, ?_⟩
    · rw [map_via rowD_inj, List.map_map]; rfl
    · rw [rel_put hp]
  · refine .inr fun x hx => ?_
    obtain ⟨r, hr, rfl⟩ := List.mem_map.mp hx
    have C := (every_cov _ (Nat.le_refl _) up r hr).lay (up_nd up)
    have hc := cov_len C.toCov
    have hlp : 0 < q.length := List.length_pos_iff.mpr hne
    obtain ⟨a, t, e⟩ : ∃ a t, TSt.sort r = a :: t := List.exists_cons_of_ne_nil (by intro h0; rw [h0] at hc; simp at hc; omega)
    rw [e]
    exact ⟨_, _, rfl⟩
  · exact hR
end
end TF
--
namespace TF
open PySem PySem.Spec L2
open PyProof.Rows hiding St RelV
section
variable {P : Program} {w : World} {K : PySem.W.Frag} {mg : Str → Option Value} {base : Heap} {f : Addr} {fd : FuncData}
theorem ok_law_is_laying (F : Fun K "_law_is_laying" "_law_is_laying" s_law_is_laying f fd) (mi : mg "isinstance" = none) (mt : mg "tuple" = none) (ml : mg "len" = none) (me : mg "enumerate" = none) (ms : mg "sorted" = none) (mli : mg "list" = none) (FN : Df P w K mg base "_law_near" P_law_near 1 spNear) : FnOk P w K mg base CX0 2 f fd P_law_is_laying (liftG K spIsLay) := by
  refine fn_d (k := 1) F sc_law_is_laying (fun ds G R h => ?_) (fun cdv A outer s H E ds G R hr h => ?_)
  · obtain ⟨q, l, rfl, _⟩ := h; rfl
  obtain ⟨q, l, rfl, up, h24, I, hR⟩ := h
  have hu : (A.deeper (envOfC "_law_is_laying" (defScope s_law_is_laying) s.heap.objs.size f cdv)).units + 9 < cLine := by have := hr.units; omega
  have hu20 : (A.deeper (envOfC "_law_is_laying" (defScope s_law_is_laying) s.heap.objs.size f cdv)).units + 20 < cLine := by have := hr.units; omega
  have hl := cov_len I.toCov
  refine wss_if (pxt_not (pxt_val (px_isi (T := "tuple") (T' := "tuple") mi mt (px_var 1 rfl)))) (fun hp => absurd hp (by decide)) (fun _ => wss_nil ?_)
  refine wss_set 2 sc_law_is_laying.nd (px_lst pxs_nil) ?_
  refine wss_for (l := enumD (l.map stone)) (f := bPair 3 4) (fun i ρ' G' => G = G' ∧ ∃ x3 x4, ρ' = [some (fl q), some (lay l), some (.lst ((sqsOf (l.take i)).map sq)), x3, x4]) PassesOwn.never rfl
    (wi_enum me (px_var 1 rfl) ⟨rfl, rfl, none, none, rfl⟩) (pgd_pair 3 4 rfl sc_law_is_laying.nd) ?_ ?_
  · rintro i dd ρ' G' hd ⟨rfl, x3, x4, rfl⟩
    obtain ⟨e, he, rfl⟩ := enumD_get hd
    rw [List.getElem?_map] at he
    obtain ⟨t, ht, rfl⟩ := Option.map_eq_some_iff.mp he
    have hlt : i < l.length := (List.getElem?_eq_some_iff.mp ht).1
    have hm : t ∈ l := List.mem_of_getElem? ht
    obtain ⟨slt, snb⟩ := I.st t hm
    have hin := lay_in I.toCov hm
    refine ⟨_, rfl, ?_⟩
    refine wss_if (pxw_or (q := false) (pxt_not (pxt_val (px_isi (T := "tuple") (T' := "tuple") mi mt (px_var 4 rfl)))) (fun _ => pxw_or (q := false) (p := false) ?_ (fun _ => pxw_or1 ?_))).t (fun hp => absurd hp (by decide)) (fun _ => wss_nil ?_)
    · exact PXT.cast (pxt_c (pxc_neI (px_len (n := 2) rfl ml (px_var 4 rfl) rfl) px_int)) rfl
    · refine PXT.cast (pxt_not (pxt_c (pxc_ltD hu (px_ixT (px_var 4 rfl) px_int rfl) (px_ixT (px_var 4 rfl) px_int rfl) rfl (plain_sq t.1 8) (plain_sq t.2 8)))) ?_
      rw [cmp_sq, decide_eq_true slt]
      rfl
    refine wss_if (pxw_or (p := false) (q := false) ?_ (fun _ => pxw_or1 ?_)).t (fun hp => absurd hp (by decide)) (fun _ => wss_nil ?_)
    · refine PXT.cast (pxt_c (pxc_notInS (d1 := sq t.2) (l := (((nbM t.1).filter q.contains).map sq)) hu (px_ixT (px_var 4 rfl) px_int rfl) (we_df FN hr (pxs_cons (px_var 0 rfl) (pxs_cons (px_ixT (px_var 4 rfl) px_int rfl) pxs_nil)) ⟨q, t.1, rfl, rfl, rfl⟩) (.inr (.inl rfl)) (plain_sqD t.2) (plain_sqsD _))) ?_
      rw [any_sq]
      have : ((nbM t.1).filter q.contains).contains t.2 = true := by simpa using ⟨snb, hin.2⟩
      rw [this]
      rfl
    · refine PXT.cast (p := decide ((i : Int) > 0) && false) (pxw_and (pxt_c (pxc_gt (px_var 3 rfl) px_int)) (fun hp => pxw_and1 ?_)).t (by simp)
      have hi0 : 0 < i := by simpa using hp
      have hpv : l[i - 1]? = some l[i - 1] := List.getElem?_eq_getElem (by omega)
      refine PXT.cast (pxt_c (pxc_leD hu (px_var 4 rfl) (px_ixT (px_var 1 rfl) (PX.cast (d' := .int ((i - 1 : Nat) : Int)) (px_sub (px_var 3 rfl) px_int) (by congr 1; omega)) (atI_map stone (atI_nat hpv))) rfl (plainD_mono (by omega) (plain_stone t)) (plainD_mono (by omega) (plain_stone l[i - 1])))) ?_
      refine cmpF_stone ?_
      have := List.pairwise_iff_getElem.mp I.up (i - 1) i (by omega) hlt (by omega)
      rw [List.getElem?_eq_getElem hlt] at ht
      cases ht
      exact this
    · refine wss_set 2 sc_law_is_laying.nd (px_cat (px_var 2 rfl) (px_lst (pxs_cons (px_ixT (px_var 4 rfl) px_int rfl) (pxs_cons (px_ixT (px_var 4 rfl) px_int rfl) pxs_nil))) ?_) (wss_nil ⟨rfl, some (.int (i : Nat)), some (stone t), ?_⟩)
      · rw [List.length_map, sqs_len, List.length_take]
        exact sz (by simp; omega)
      · have et : l.take (i + 1) = l.take i ++ [t] := by rw [List.take_add_one, ht]; rfl
        rw [et, sqs_app, List.map_append]
        rfl
  · rintro ρ' G' ⟨rfl, x3, x4, rfl⟩
    rw [enumD_len, List.length_map, List.take_length]
    have e1 := sort_sqs up I.toCov
    refine wss_ret (px_c (pxc_eq hu (px_sortedT TSq (sqsOf l) hu20 ms (px_var 2 rfl) (.inl rfl) (.inl fun x => ⟨_, _, rfl⟩)) (px_listT rfl mli Boot.«list» (px_var 0 rfl)) ?_ ?_)) ?_
    · rw [e1]; exact plain_sqsD q
    · exact plain_sqsD q
    · rw [e1]
      have e2 : eqD (.lst (q.map TSq.f)) (.lst (q.map sq)) = true := eqL_sqs q
      rw [e2]
      exact hR
end
end TF
--
namespace TF
open PySem PySem.Spec L2
open PyProof.Rows hiding St RelV
section
variable {P : Program} {w : World} {K : PySem.W.Frag} {mg : Str → Option Value} {base : Heap} {f : Addr} {fd : FuncData}
theorem ok_stones_along (F : Fun K "stones_along" "stones_along" s_stones_along f fd) (mr : mg "range" = none) (ml : mg "len" = none) (mi : mg "min" = none) (ma : mg "max" = none) : FnOk P w K mg base CX0 1 f fd P_stones_along (liftG K spAlong) := by
  refine fn_d (k := 0) F sc_stones_along (fun ds G R h => ?_) (fun cdv A outer s H E ds G R hr h => ?_)
  · obtain ⟨ring, b, rfl, _⟩ := h; rfl
  obtain ⟨ring, b, rfl, hb, h1, h2, hR⟩ := h
  have hu : (A.deeper (envOfC "stones_along" (defScope s_stones_along) s.heap.objs.size f cdv)).units + 20 < cLine := by have := hr.units; omega
  refine wss_ownL 2 sc_stones_along.nd pxs_nil (fun p hp => ?_)
  have hn : (((ring.length - b + 1) / 2 : Nat) : Int) = ((ring.length : Int) - (b : Int) + 1) / 2 := by omega
  refine wss_for (l := rangeD2 b ((ring.length - b + 1) / 2)) (f := bName 3) (fun i ρ' G' => (∃ x3, ρ' = [some (.lst (ring.map sq)), some (.int b), some (.fn p), x3]) ∧ G' = put G p (.lst (((alongM ring b).take i).map stone))) PassesOwn.never rfl
    (wi_range3 ((ring.length - b + 1) / 2) mr (px_var 1 rfl) (px_len (n := ring.length) rfl ml (px_var 0 rfl) (by simp [lenD])) px_int ⟨by omega, by omega, by omega, hn⟩ ⟨rfl, ⟨none, rfl⟩, by simp⟩) (pgd_name 3 sc_stones_along.nd) ?_ ?_
  · rintro i dd ρ' G' hd ⟨⟨x3, rfl⟩, rfl⟩
    obtain ⟨hi, rfl⟩ := rangeD2_get hd
    have hk : b + 2 * i < ring.length := by omega
    have ek : (b : Int) + (i : Nat) * 2 = ((b + 2 * i : Nat) : Int) := by omega
    have ha : (alongM ring b)[i]? = some (stM (prevR ring (b + 2 * i)) (ring.getD (b + 2 * i) (0, 0))) := by
      unfold alongM
      rw [List.getElem?_map, List.getElem?_range hi]
      rfl
    rw [ek]
    refine ⟨_, rfl, ?_⟩
    have g1 := atI_prev hk
    have g2 := atI_at hk
    refine wss_append (px_var 2 rfl) (px_tup (pxs_cons (px_minSq rfl hu mi (px_ixL (px_var 0 rfl) (px_sub (px_var 3 rfl) px_int) g1) (px_ixL (px_var 0 rfl) (px_var 3 rfl) g2)) (pxs_cons (px_maxSq rfl hu ma (px_ixL (px_var 0 rfl) (px_sub (px_var 3 rfl) px_int) g1) (px_ixL (px_var 0 rfl) (px_var 3 rfl) g2)) pxs_nil))) put_same ?_ (wss_nil ⟨⟨_, rfl⟩, ?_⟩)
    · have : ((alongM ring b).take i).length ≤ 1000 := by
        rw [List.length_take]
        unfold alongM
        rw [List.length_map, List.length_range]
        omega
      rw [List.length_map]; exact sz1 (by omega)
    · rw [put_put, List.take_add_one, ha, Option.toList_some, List.map_append]
      rfl
  · rintro ρ' G' ⟨⟨x3, rfl⟩, rfl⟩
    have e : (alongM ring b).take (rangeD2 (b : Int) ((ring.length - b + 1) / 2)).length = alongM ring b := by
      refine List.take_of_length_le ?_
      rw [rangeD2_len]
      unfold alongM
      rw [List.length_map, List.length_range]
      exact Nat.le_refl _
    rw [e]
    refine wss_retO (px_var 2 rfl) put_same ?_
    rw [rel_put hp]
    exact hR
theorem ok_has_all (F : Fun K "has_all" "has_all" s_has_all f fd) (ma : mg "all" = none) : FnOk P w K mg base CX0 1 f fd P_has_all (liftG K spHasAll) := by
  refine fn_d (k := 0) F sc_has_all (fun ds G R h => ?_) (fun cdv A outer s H E ds G R hr h => ?_)
  · obtain ⟨l, st, rfl, _⟩ := h; rfl
  obtain ⟨l, st, rfl, hz, hR⟩ := h
  have hu : (A.deeper (envOfC "has_all" (defScope s_has_all) s.heap.objs.size f cdv)).units + 9 < cLine := by have := hr.units; omega
  refine wss_ret (px_all (bs := st.map l.contains) rfl ma (PX.cast (px_compM (Nc := C_has_all_0) (caps := Q_has_all_0) (l := st.map stone) (f := bName 0) (fun d => .bl ((l.map stone).any fun e => eqD e d))
    (compSc (psc := defScope s_has_all) (PN := N_has_all) (by decide +kernel) rfl rfl) rfl
    (wi_list (px_var 1 rfl) ⟨rfl, rfl⟩)
    (fun C s' H' fp => pgd_name 0 (show C_has_all_0.Nodup by decide +kernel)) (bName_le rfl) (by rw [List.length_map]; omega) ?_) ?_)) ?_
  · intro C s' H' fp G2 d hd kn
    obtain ⟨y, _, rfl⟩ := List.mem_map.mp hd
    exact ⟨_, rfl, px_c (pxc_inS hu (px_var 0 rfl) (px_var 1 rfl) (.inl rfl) (plain_stone y) (plain_stones l))⟩
  · rw [List.map_map, List.map_map]
    refine congrArg Dat.lst (List.map_congr_left fun y _ => ?_)
    show Dat.bl ((l.map stone).any fun e => eqD e (stone y)) = Dat.bl (l.contains y)
    rw [any_stone]
  · rw [List.all_map]
    exact hR
theorem ok_laid_otherwise (F : Fun K "laid_otherwise" "laid_otherwise" s_laid_otherwise f fd) (mt : mg "tuple" = none) (ms : mg "sorted" = none) (FA : Df P w K mg base "stones_along" P_stones_along 1 spAlong) (FH : Df P w K mg base "has_all" P_has_all 1 spHasAll) : FnOk P w K mg base CX0 2 f fd P_laid_otherwise (liftG K spOther) := by
  refine fn_d (k := 1) F sc_laid_otherwise (fun ds G R h => ?_) (fun cdv A outer s H E ds G R hr h => ?_)
  · obtain ⟨l, ring, rfl, _⟩ := h; rfl
  obtain ⟨l, ring, rfl, h1, h2, h3, hR⟩ := h
  have hu : (A.deeper (envOfC "laid_otherwise" (defScope s_laid_otherwise) s.heap.objs.size f cdv)).units + 20 < cLine := by have := hr.units; omega
  have hu9 : (A.deeper (envOfC "laid_otherwise" (defScope s_laid_otherwise) s.heap.objs.size f cdv)).units + 9 < cLine := by omega
  have hl : ∀ b, (alongM ring b).length ≤ 1000 := fun b => by
    unfold alongM
    rw [List.length_map, List.length_range]
    omega
  refine wss_setE 2 sc_laid_otherwise.nd (we_df FA (hr.mono (by omega)) (pxs_cons (px_var 1 rfl) (pxs_cons px_int pxs_nil)) ⟨ring, 1, rfl, by decide, h1, h2, ?_⟩)
  refine wss_setE 3 sc_laid_otherwise.nd (we_df FA (hr.mono (by omega)) (pxs_cons (px_var 1 rfl) (pxs_cons px_int pxs_nil)) ⟨ring, 0, rfl, by decide, h1, h2, ?_⟩)
  refine wss_ifM (fun ρ' G' => G = G' ∧ ∃ tk pt : Lay, otherM l ring = swapM l tk pt ∧ tk.length ≤ 1000 ∧ pt.length ≤ 1000 ∧ ρ' = [some (lay l), some (.lst (ring.map sq)), some (.lst (tk.map stone)), some (.lst (pt.map stone)), none])
    (pxt_not (pxt_val (we_df FH (hr.mono (by omega)) (pxs_cons (px_var 0 rfl) (pxs_cons (px_var 2 rfl) pxs_nil)) ⟨l, alongM ring 1, rfl, hl 1, rfl, rfl⟩))) (fun hp => ?_) (fun hp => ?_) (fun ρ' G' hM => ?_)
  · refine wss_setE 2 sc_laid_otherwise.nd (we_df FA (hr.mono (by omega)) (pxs_cons (px_var 1 rfl) (pxs_cons px_int pxs_nil)) ⟨ring, 0, rfl, by decide, h1, h2, ?_⟩)
    refine wss_setE 3 sc_laid_otherwise.nd (we_df FA (hr.mono (by omega)) (pxs_cons (px_var 1 rfl) (pxs_cons px_int pxs_nil)) ⟨ring, 1, rfl, by decide, h1, h2, ?_⟩)
    refine wss_nil ⟨rfl, alongM ring 0, alongM ring 1, ?_, hl 0, hl 1, rfl⟩
    unfold otherM
    rw [if_neg (by simpa using hp)]
  · refine wss_nil ⟨rfl, alongM ring 1, alongM ring 0, ?_, hl 1, hl 0, rfl⟩
    unfold otherM
    rw [if_pos (by simpa using hp)]
  obtain ⟨rfl, tk, pt, e, z1, z2, rfl⟩ := hM
  refine wss_setF 4 (Nc := C_laid_otherwise_0) (caps := Q_laid_otherwise_0) (l := l.map stone) (f := bName 0) (via stone fun t => !tk.contains t) id sc_laid_otherwise.nd
    (compSc (psc := defScope s_laid_otherwise) (PN := N_laid_otherwise) (by decide +kernel) rfl rfl) rfl
    (wi_tup (px_var 0 rfl) ⟨rfl, rfl⟩)
    (fun C s' H' fp => pgd_name 0 (show C_laid_otherwise_0.Nodup by decide +kernel)) (bName_le rfl) (by rw [List.length_map]; omega) ?_ ?_
  · intro C s' H' fp G2 d hd kn
    obtain ⟨y, _, rfl⟩ := List.mem_map.mp hd
    rw [via_eq stone_inj, ← any_stone]
    exact ⟨_, rfl, pxt_c (pxc_notInS hu9 (px_var 0 rfl) (px_var 1 rfl) (.inr (.inl rfl)) (plain_stone y) (plain_stones tk)), fun _ => px_var 0 rfl⟩
  rw [fil_via' stone_inj]
  refine wss_ret (px_tupleL rfl mt Boot.«tuple» (px_sortedT TSt ((l.filter fun s => !tk.contains s) ++ pt) hu ms (px_cat (px_var 4 rfl) (px_var 3 rfl) ?_) (.inl (by rw [List.map_append]; rfl)) (.inr fun x _ => ⟨_, _, rfl⟩))) ?_
  · rw [List.length_map, List.length_map]
    exact sz (Nat.le_trans (Nat.add_le_add_right (List.length_filter_le _ _) _) (by omega))
  · rw [e] at hR
    exact hR
end
end TF
--
namespace TF
open PySem PySem.Spec L2
open PyProof.Rows hiding St RelV
section
variable {P : Program} {w : World} {K : PySem.W.Frag} {mg : Str → Option Value} {base : Heap} {f : Addr} {fd : FuncData}
theorem ok_covered (F : Fun K "covered" "covered" s_covered f fd) (ms : mg "sorted" = none) : FnOk P w K mg base CX0 1 f fd P_covered (liftG K spCovered) := by
  refine fn_d (k := 0) F sc_covered (fun ds G R h => ?_) (fun cdv A outer s H E ds G R hr h => ?_)
  · obtain ⟨l, rfl, _⟩ := h; rfl
  obtain ⟨l, rfl, hz, hR⟩ := h
  have hu : (A.deeper (envOfC "covered" (defScope s_covered) s.heap.objs.size f cdv)).units + 20 < cLine := by have := hr.units; omega
  refine wss_ownL 1 sc_covered.nd pxs_nil (fun p hp => ?_)
  refine wss_for (l := l.map stone) (f := bName 2) (fun i ρ' G' => (∃ x2, ρ' = [some (lay l), some (.fn p), x2]) ∧ G' = put G p (.lst ((sqsOf (l.take i)).map sq))) PassesOwn.never rfl
    (wi_tup (px_var 0 rfl) ⟨rfl, ⟨none, rfl⟩, rfl⟩) (pgd_name 2 sc_covered.nd) ?_ ?_
  · rintro i dd ρ' G' hd ⟨⟨x2, rfl⟩, rfl⟩
    rw [List.getElem?_map] at hd
    obtain ⟨t, ht, rfl⟩ := Option.map_eq_some_iff.mp hd
    refine ⟨_, rfl, ?_⟩
    refine wss_extendT (m := [sq t.1, sq t.2]) (px_var 1 rfl) (px_var 2 rfl) put_same ?_ (wss_nil ⟨⟨_, rfl⟩, ?_⟩)
    · rw [List.length_map, sqs_len, List.length_take]
      exact sz (by simp; omega)
    · rw [put_put, List.take_add_one, ht, sqs_app, List.map_append]
      rfl
  · rintro ρ' G' ⟨⟨x2, rfl⟩, rfl⟩
    rw [List.length_map, List.take_length]
    refine wss_retE (we_rel (PX.we (px_sortedT TSq (sqsOf l) hu ms (px_var 1 rfl) (.inr ⟨p, rfl, put_same⟩) (.inl fun x => ⟨_, _, rfl⟩)) ⟨p, ?_⟩))
    rw [rel_put hp]
    exact hR
end
end TF
--
namespace TF
open PySem PySem.Spec L2
open PyProof.Rows hiding St RelV
section
variable {P : Program} {w : World} {K : PySem.W.Frag} {mg : Str → Option Value} {base : Heap} {f : Addr} {fd : FuncData}
theorem ok_partners (F : Fun K "partners" "partners" s_partners f fd) : FnOk P w K mg base CX0 1 f fd P_partners (liftG K spPartners) := by
  refine fn_d (k := 0) F sc_partners (fun ds G R h => ?_) (fun cdv A outer s H E ds G R hr h => ?_)
  · obtain ⟨q, l, rfl, _⟩ := h; rfl
  obtain ⟨q, l, rfl, nd, h24, I, hR⟩ := h
  have hu : (A.deeper (envOfC "partners" (defScope s_partners) s.heap.objs.size f cdv)).units + 9 < cLine := by have := hr.units; omega
  have hl := cov_len I.toCov
  have n1 : (sqsOf l).Nodup := I.pm.nodup_iff.mpr nd
  refine wss_setE 1 sc_partners.nd (we_dnew fun p hp => ?_)
  refine wss_for (l := l.map stone) (f := bPair 2 3) (fun i ρ' G' => (∃ x2 x3, ρ' = [some (lay l), some (.fn p), x2, x3]) ∧ G' = put G p (.dct ((sqsOf (l.take i)).map fun q => (sq q, sq (pfM l q))))) PassesOwn.never rfl
    (wi_tup (px_var 0 rfl) ⟨rfl, ⟨none, none, rfl⟩, rfl⟩) (pgd_pair 2 3 rfl sc_partners.nd) ?_ ?_
  · rintro i dd ρ' G' hd ⟨⟨x2, x3, rfl⟩, rfl⟩
    rw [List.getElem?_map] at hd
    obtain ⟨t, ht, rfl⟩ := Option.map_eq_some_iff.mp hd
    have htm : t ∈ l := List.mem_of_getElem? ht
    have et : l.take (i + 1) = l.take i ++ [t] := by rw [List.take_add_one, ht]; rfl
    have e2 : sqsOf (l.take (i + 1)) = sqsOf (l.take i) ++ [t.1, t.2] := by rw [et, sqs_app]; rfl
    have n2 : (sqsOf (l.take (i + 1))).Nodup := by
      have : sqsOf l = sqsOf (l.take (i + 1)) ++ sqsOf (l.drop (i + 1)) := by rw [← sqs_app, List.take_append_drop]
      rw [this, List.nodup_append] at n1
      exact n1.1
    have n3 : t.1 ∉ sqsOf (l.take i) ∧ t.2 ∉ sqsOf (l.take i) ++ [t.1] := by
      rw [e2, show sqsOf (l.take i) ++ [t.1, t.2] = (sqsOf (l.take i) ++ [t.1]) ++ [t.2] by simp, List.nodup_append] at n2
      obtain ⟨a1, _, a3⟩ := n2
      rw [List.nodup_append] at a1
      exact ⟨fun h => a1.2.2 _ h _ (List.mem_singleton.mpr rfl) rfl, fun h => a3 _ h _ (List.mem_singleton.mpr rfl) rfl⟩
    have hpf := pf_st nd I htm
    have hz : (sqsOf (l.take i)).length ≤ 24 := by rw [sqs_len, List.length_take]; omega
    refine ⟨_, rfl, ?_⟩
    refine wss_dput (k := sq t.1) (d := sq t.2) hu (px_var 3 rfl) (px_var 1 rfl) (px_var 2 rfl) put_same (key_sq _) ⟨_, rfl⟩ (by rw [List.length_map]; exact sz1 (by omega)) ?_
    rw [put_put, put_pd n3.1 (by rw [hpf.1])]
    refine wss_dput (k := sq t.2) (d := sq t.1) hu (px_var 2 rfl) (px_var 1 rfl) (px_var 3 rfl) put_same (key_sq _) ⟨_, rfl⟩ (by rw [List.length_map, List.length_append]; exact sz1 (by simp; omega)) ?_
    rw [put_put, put_pd n3.2 (by rw [hpf.2])]
    refine wss_nil ⟨⟨_, _, rfl⟩, ?_⟩
    rw [e2, List.append_assoc]
    rfl
  · rintro ρ' G' ⟨⟨x2, x3, rfl⟩, rfl⟩
    rw [List.length_map, List.take_length]
    exact wss_ret (px_var 1 rfl) (hR p hp)
theorem ok_ring_from (F : Fun K "ring_from" "ring_from" s_ring_from f fd) : FnOk P w K mg base CX0 1 f fd P_ring_from (liftG K spRingFrom) := by
  refine fn_d (k := 0) F sc_ring_from (fun ds G R h => ?_) (fun cdv A outer s H E ds G R hr h => ?_)
  · obtain ⟨q, l, m, x, p1, p2, rfl, _⟩ := h; rfl
  obtain ⟨q, l, m, x, p1, p2, rfl, nd, h24, I, J, hx, hG1, hG2, hR⟩ := h
  have hu : (A.deeper (envOfC "ring_from" (defScope s_ring_from) s.heap.objs.size f cdv)).units + 9 < cLine := by have := hr.units; omega
  have hp := pf_inv nd I
  have hq := pf_inv nd J
  obtain ⟨k, hk⟩ := per_ex hp hq hx
  have hkl := ring_short nd I J hx hk
  rw [ring_len] at hkl
  have hpos := hk.pos
  refine wss_ownL 3 sc_ring_from.nd (ds := (ringG (pfM l) (pfM m) x 1).map sq) (pxs_cons (px_var 0 rfl) (pxs_cons (px_dget hu (px_var 1 rfl) (px_var 0 rfl) hG1 (key_sq _) ⟨_, rfl⟩ (look_pd I hx)) pxs_nil)) (fun p3 hp3 => ?_) (show 2 ≤ 1000 by decide)
  have n1 : p1 ≠ p3 := by rintro rfl; rw [hG1] at hp3; cases hp3
  have n2 : p2 ≠ p3 := by rintro rfl; rw [hG2] at hp3; cases hp3
  have g1 : ∀ o, put G p3 o p1 = some (.dct (pdM l)) := fun o => by rw [put_ne n1]; exact hG1
  have g2 : ∀ o, put G p3 o p2 = some (.dct (pdM m)) := fun o => by rw [put_ne n2]; exact hG2
  refine wss_set 4 sc_ring_from.nd (px_dget hu (px_var 2 rfl) (px_dget hu (px_var 1 rfl) (px_var 0 rfl) (g1 _) (key_sq _) ⟨_, rfl⟩ (look_pd I hx)) (g2 _) (key_sq _) ⟨_, rfl⟩ (look_pd J (hp.mem _ hx))) ?_
  refine wss_while (fun n ρ' G' => ∃ i, 1 ≤ i ∧ i ≤ k ∧ n = k - i ∧ ρ' = [some (sq x), some (.fn p1), some (.fn p2), some (.fn p3), some (sq (itG (pfM l) (pfM m) x i))] ∧ G' = put G p3 (.lst ((ringG (pfM l) (pfM m) x i).map sq))) PassesOwn.never (m0 := k - 1) ⟨1, Nat.le_refl _, hpos, rfl, rfl, rfl⟩ ?_
  rintro n ρ' G' ⟨i, h1, h2, rfl, rfl, rfl⟩
  have hi := it_mem hp hq hx i
  refine pxt_mono (pxt_c (pxc_neD hu (px_var 4 rfl) (px_var 0 rfl) rfl (plain_sq _ 8) (plain_sq _ 8))) ⟨fun hc => ?_, fun hc => ?_⟩
  · rw [eqD_sq] at hc
    have hne : itG (pfM l) (pfM m) x i ≠ x := by simpa using hc
    have hik : i < k := by
      rcases Nat.lt_or_ge i k with h | h
      · exact h
      · have : i = k := by omega
        rw [this] at hne
        exact absurd hk.back hne
    have hzz : (ringG (pfM l) (pfM m) x i).length ≤ 24 := by rw [ring_len]; omega
    refine wss_append (px_var 3 rfl) (px_var 4 rfl) put_same (by rw [List.length_map]; exact sz1 (by omega)) ?_
    rw [put_put]
    refine wss_append (px_var 3 rfl) (px_dget hu (px_var 1 rfl) (px_var 4 rfl) (g1 _) (key_sq _) ⟨_, rfl⟩ (look_pd I hi)) put_same (by rw [List.length_append, List.length_map]; exact sz1 (by simp; omega)) ?_
    rw [put_put]
    refine wss_set 4 sc_ring_from.nd (px_dget hu (px_var 2 rfl) (px_dget hu (px_var 1 rfl) (px_var 4 rfl) (g1 _) (key_sq _) ⟨_, rfl⟩ (look_pd I hi)) (g2 _) (key_sq _) ⟨_, rfl⟩ (look_pd J (hp.mem _ hi))) (wss_nil ⟨k - (i + 1), by omega, i + 1, by omega, hik, rfl, rfl, ?_⟩)
    rw [ring_succ, List.map_append, List.append_assoc]
    rfl
  · rw [eqD_sq] at hc
    have he : itG (pfM l) (pfM m) x i = x := by simpa using hc
    have hik : i = k := by
      rcases Nat.lt_or_ge i k with h | h
      · exact absurd he (hk.min i (by omega) h)
      · omega
    subst hik
    refine wss_retO (px_var 3 rfl) put_same ?_
    rw [rel_put hp3]
    exact hR i hk
theorem ok_rings (F : Fun K "rings" "rings" s_rings f fd) (ml : mg "len" = none) (FP : Df P w K mg base "partners" P_partners 1 spPartners) (FR : Df P w K mg base "ring_from" P_ring_from 1 spRingFrom) (FC : Df P w K mg base "covered" P_covered 1 spCovered) : FnOk P w K mg base CX0 2 f fd P_rings (liftG K spRings) := by
  refine fn_d (k := 1) F sc_rings (fun ds G R h => ?_) (fun cdv A outer s H E ds G R hr h => ?_)
  · obtain ⟨q, l, m, rfl, _⟩ := h; rfl
  obtain ⟨q, l, m, rfl, up, h24, I, J, hR⟩ := h
  have hu : (A.deeper (envOfC "rings" (defScope s_rings) s.heap.objs.size f cdv)).units + 9 < cLine := by have := hr.units; omega
  have nd := up_nd up
  have hll := cov_len I.toCov
  refine wss_setE 2 sc_rings.nd (we_df FP hr (pxs_cons (px_var 0 rfl) pxs_nil) ⟨q, l, rfl, nd, h24, I, fun p1 hp1 => ?_⟩)
  refine wss_setE 3 sc_rings.nd (we_df FP hr (pxs_cons (px_var 1 rfl) pxs_nil) ⟨q, m, rfl, nd, h24, J, fun p2 hp2 => ?_⟩)
  refine wss_setE 4 sc_rings.nd (we_dnew fun p3 hp3 => ?_)
  refine wss_ownL 5 sc_rings.nd pxs_nil (fun p4 hp4 => ?_)
  have n21 : p2 ≠ p1 := by rintro rfl; rw [put_same] at hp2; cases hp2
  have n32 : p3 ≠ p2 := by rintro rfl; rw [put_same] at hp3; cases hp3
  rw [put_ne n32] at hp3
  have n31 : p3 ≠ p1 := by rintro rfl; rw [put_same] at hp3; cases hp3
  rw [put_ne n31] at hp3
  have n43 : p4 ≠ p3 := by rintro rfl; rw [put_same] at hp4; cases hp4
  rw [put_ne n43] at hp4
  have n42 : p4 ≠ p2 := by rintro rfl; rw [put_same] at hp4; cases hp4
  rw [put_ne n42] at hp4
  have n41 : p4 ≠ p1 := by rintro rfl; rw [put_same] at hp4; cases hp4
  rw [put_ne n41] at hp4
  rw [put_ne n21] at hp2
  obtain ⟨GG, hGG⟩ : ∃ GG : List Sq → List (List Sq) → Gs, GG = fun S T => put (put (put (put G p1 (.dct (pdM l))) p2 (.dct (pdM m))) p3 (.dct (S.map kvT))) p4 (.lst (T.map ringD)) := ⟨_, rfl⟩
  have gg0 : put (put (put (put G p1 (.dct (pdM l))) p2 (.dct (pdM m))) p3 (.dct [])) p4 (.lst []) = GG [] [] := by rw [hGG]; rfl
  have gg1 : ∀ S T, GG S T p1 = some (.dct (pdM l)) := fun S T => by rw [hGG]; simp only; rw [put_ne (Ne.symm n41), put_ne (Ne.symm n31), put_ne (Ne.symm n21), put_same]
  have gg2 : ∀ S T, GG S T p2 = some (.dct (pdM m)) := fun S T => by rw [hGG]; simp only; rw [put_ne (Ne.symm n42), put_ne (Ne.symm n32), put_same]
  have gg3 : ∀ S T, GG S T p3 = some (.dct (S.map kvT)) := fun S T => by rw [hGG]; simp only; rw [put_ne (Ne.symm n43), put_same]
  have gg4 : ∀ S T, GG S T p4 = some (.lst (T.map ringD)) := fun S T => by rw [hGG]; simp only; rw [put_same]
  have gp3 : ∀ S T S', put (GG S T) p3 (.dct (S'.map kvT)) = GG S' T := fun S T S' => by rw [hGG]; simp only; rw [put_comm n43, put_put]
  have gp4 : ∀ S T T', put (GG S T) p4 (.lst (T'.map ringD)) = GG S T' := fun S T T' => by rw [hGG]; simp only; rw [put_put]
  have grel : ∀ S T, rel (rel (rel (rel (GG S T) p4) p3) p2) p1 = G := fun S T => by
    rw [hGG]
    simp only
    rw [rel_put, rel_put, rel_put, rel_put hp1]
    · rw [put_ne n21]; exact hp2
    · rw [put_ne n32, put_ne n31]; exact hp3
    · rw [put_ne n43, put_ne n42, put_ne n41]; exact hp4
  rw [gg0]
  clear hGG
  have esort := sort_sqs up I.toCov
  refine wss_for (l := q.map sq) (f := bName 6) (fun i ρ' G' => (∃ x6 x7 x8, ρ' = [some (lay l), some (lay m), some (.fn p1), some (.fn p2), some (.fn p3), some (.fn p4), x6, x7, x8]) ∧ ∃ S T, G' = GG S T ∧ RingsInv q l m i S T ∧ T.length ≤ i) PassesOwn.never rfl
    (wi_listE (we_df FC hr (pxs_cons (px_var 0 rfl) pxs_nil) ⟨l, rfl, by omega, q.map sq, by rw [esort], rfl, ⟨none, none, none, rfl⟩, [], [], rfl, inv0, Nat.le_refl _⟩)) (pgd_name 6 sc_rings.nd) ?_ ?_
  · rintro i dd ρ' G' hd ⟨⟨x6, x7, x8, rfl⟩, S, T, rfl, V, hT⟩
    rw [List.getElem?_map] at hd
    obtain ⟨x, hx, rfl⟩ := Option.map_eq_some_iff.mp hd
    have hxq : x ∈ q := List.mem_of_getElem? hx
    have hi : i < q.length := (List.getElem?_eq_some_iff.mp hx).1
    have hS24 : S.length ≤ 24 := Nat.le_trans (nodup_le V.snd V.sub) h24
    refine ⟨_, rfl, ?_⟩
    refine wss_if (pxt_c (pxc_dnotin hu (px_var 6 rfl) (px_var 4 rfl) (gg3 _ _) (key_sq x) ⟨_, rfl⟩)) (fun hp => ?_) (fun hp => ?_)
    · rw [look_kv] at hp
      have hxS : x ∉ S := by simpa using hp
      refine wss_setE 7 sc_rings.nd (we_df FR hr (pxs_cons (px_var 6 rfl) (pxs_cons (px_var 2 rfl) (pxs_cons (px_var 3 rfl) pxs_nil))) ⟨q, l, m, x, p1, p2, rfl, nd, h24, I, J, hxq, gg1 _ _, gg2 _ _, fun k hk => ?_⟩)
      have V2 := V.next up nd I J hx hxS hk
      have rsh := ring_short nd I J hxq hk
      generalize hrr : ringG (pfM l) (pfM m) x k = r at *
      refine wss_for (l := r.map sq) (f := bName 8) (fun j ρ' G' => (∃ x8, ρ' = [some (lay l), some (lay m), some (.fn p1), some (.fn p2), some (.fn p3), some (.fn p4), some (sq x), some (ringD r), x8]) ∧ G' = GG (S ++ r.take j) T) PassesOwn.never rfl
        (wi_list (px_var 7 rfl) ⟨rfl, ⟨_, rfl⟩, by simp⟩) (pgd_name 8 sc_rings.nd) ?_ ?_
      · rintro j dd ρ' G' hd ⟨⟨x8, rfl⟩, rfl⟩
        rw [List.getElem?_map] at hd
        obtain ⟨y, hy, rfl⟩ := Option.map_eq_some_iff.mp hd
        have et : r.take (j + 1) = r.take j ++ [y] := by rw [List.take_add_one, hy]; rfl
        have hyn : y ∉ S ++ r.take j := by
          have nn := V2.snd
          rw [← List.take_append_drop (j + 1) r, et, List.append_assoc, ← List.append_assoc S, List.nodup_append] at nn
          intro hm
          exact nn.2.2 y hm y (List.mem_append_left _ (List.mem_singleton.mpr rfl)) rfl
        refine ⟨_, rfl, ?_⟩
        refine wss_dput (k := sq y) (d := .bl true) hu px_bl (px_var 4 rfl) (px_var 8 rfl) (gg3 _ _) (key_sq y) ⟨_, rfl⟩ (by rw [List.length_map, List.length_append, List.length_take]; exact sz1 (by omega)) ?_
        rw [put_kv hyn, gp3]
        refine wss_nil ⟨⟨_, rfl⟩, ?_⟩
        rw [et, List.append_assoc]
      · rintro ρ' G' ⟨⟨x8, rfl⟩, rfl⟩
        rw [List.length_map, List.take_length]
        refine wss_if (pxt_c (pxc_gt (px_len (n := r.length) rfl ml (px_var 7 rfl) (by simp [lenD, ringD])) px_int)) (fun hc => ?_) (fun hc => ?_)
        · have hlen : 2 < r.length := by have := of_decide_eq_true hc; omega
          rw [if_pos hlen] at V2
          refine wss_append (d := ringD r) (px_var 5 rfl) (px_var 7 rfl) (gg4 _ _) (by rw [List.length_map]; exact sz1 (by omega)) ?_
          have e : T.map ringD ++ [ringD r] = (T ++ [r]).map ringD := by rw [List.map_append]; rfl
          rw [e, gp4]
          exact wss_nil (wss_nil (wss_nil ⟨⟨_, _, _, rfl⟩, _, _, rfl, V2, by simp; omega⟩))
        · have hlen : ¬ 2 < r.length := by have := of_decide_eq_false hc; omega
          rw [if_neg hlen, List.append_nil] at V2
          exact wss_nil (wss_nil (wss_nil ⟨⟨_, _, _, rfl⟩, _, _, rfl, V2, by omega⟩))
    · rw [look_kv] at hp
      have hxS : x ∈ S := by simpa using hp
      exact wss_nil (wss_nil ⟨⟨_, _, _, rfl⟩, S, T, rfl, V.skip hx hxS, by omega⟩)
  · rintro ρ' G' ⟨⟨x6, x7, x8, rfl⟩, S, T, rfl, V, hT⟩
    rw [List.length_map] at V
    refine wss_retE (we_rel (we_rel (we_rel (we_out (px_var 5 rfl) (gg4 _ _) ⟨p3, p2, p1, ?_⟩))))
    rw [grel]
    exact hR T V.end
end
end TF
namespace TF
open PySem PySem.Spec L2
open PyProof.Rows hiding St RelV
theorem all_mk {l : PySem.W.OpenLaw} {w : World} {K : PySem.W.Frag} {h : Heap} {mg : Str → Option Value} {fa : Addr} (X : K.In h) (G : h.Ns mainGlobals mg) (hfa : mg "law" = some (.ref fa))
    {f0 : Addr} {od0 an0 : Option Addr} {sl0 : Array (Option Value)} {oc0 kV0 dc0 pm0 cd0 ct0 : Value} (a0 : PySem.W.nsIn K mainGlobals "covered" = some (some (.ref f0))) (l0 : K.lookup f0 = some ⟨oc0, od0, .func (PySem.W.fnOf "covered" "covered" (defArgs s_covered) (defBody s_covered) (defScope s_covered) .none kV0 dc0 pm0 an0 cd0 ct0), sl0⟩) (c0 : PySem.W.codeIn K cd0 "covered" = true) (k0 : PySem.W.keepIn K (.ref f0) = true)
    {f1 : Addr} {od1 an1 : Option Addr} {sl1 : Array (Option Value)} {oc1 kV1 dc1 pm1 cd1 ct1 : Value} (a1 : PySem.W.nsIn K mainGlobals "partners" = some (some (.ref f1))) (l1 : K.lookup f1 = some ⟨oc1, od1, .func (PySem.W.fnOf "partners" "partners" (defArgs s_partners) (defBody s_partners) (defScope s_partners) .none kV1 dc1 pm1 an1 cd1 ct1), sl1⟩) (c1 : PySem.W.codeIn K cd1 "partners" = true) (k1 : PySem.W.keepIn K (.ref f1) = true)
    {f2 : Addr} {od2 an2 : Option Addr} {sl2 : Array (Option Value)} {oc2 kV2 dc2 pm2 cd2 ct2 : Value} (a2 : PySem.W.nsIn K mainGlobals "ring_from" = some (some (.ref f2))) (l2 : K.lookup f2 = some ⟨oc2, od2, .func (PySem.W.fnOf "ring_from" "ring_from" (defArgs s_ring_from) (defBody s_ring_from) (defScope s_ring_from) .none kV2 dc2 pm2 an2 cd2 ct2), sl2⟩) (c2 : PySem.W.codeIn K cd2 "ring_from" = true) (k2 : PySem.W.keepIn K (.ref f2) = true)
    {f3 : Addr} {od3 an3 : Option Addr} {sl3 : Array (Option Value)} {oc3 kV3 dc3 pm3 cd3 ct3 : Value} (a3 : PySem.W.nsIn K mainGlobals "rings" = some (some (.ref f3))) (l3 : K.lookup f3 = some ⟨oc3, od3, .func (PySem.W.fnOf "rings" "rings" (defArgs s_rings) (defBody s_rings) (defScope s_rings) .none kV3 dc3 pm3 an3 cd3 ct3), sl3⟩) (c3 : PySem.W.codeIn K cd3 "rings" = true) (k3 : PySem.W.keepIn K (.ref f3) = true)
    {f4 : Addr} {od4 an4 : Option Addr} {sl4 : Array (Option Value)} {oc4 kV4 dc4 pm4 cd4 ct4 : Value} (a4 : PySem.W.nsIn K mainGlobals "stones_along" = some (some (.ref f4))) (l4 : K.lookup f4 = some ⟨oc4, od4, .func (PySem.W.fnOf "stones_along" "stones_along" (defArgs s_stones_along) (defBody s_stones_along) (defScope s_stones_along) .none kV4 dc4 pm4 an4 cd4 ct4), sl4⟩) (c4 : PySem.W.codeIn K cd4 "stones_along" = true) (k4 : PySem.W.keepIn K (.ref f4) = true)
    {f5 : Addr} {od5 an5 : Option Addr} {sl5 : Array (Option Value)} {oc5 kV5 dc5 pm5 cd5 ct5 : Value} (a5 : PySem.W.nsIn K mainGlobals "has_all" = some (some (.ref f5))) (l5 : K.lookup f5 = some ⟨oc5, od5, .func (PySem.W.fnOf "has_all" "has_all" (defArgs s_has_all) (defBody s_has_all) (defScope s_has_all) .none kV5 dc5 pm5 an5 cd5 ct5), sl5⟩) (c5 : PySem.W.codeIn K cd5 "has_all" = true) (k5 : PySem.W.keepIn K (.ref f5) = true)
    {f6 : Addr} {od6 an6 : Option Addr} {sl6 : Array (Option Value)} {oc6 kV6 dc6 pm6 cd6 ct6 : Value} (a6 : PySem.W.nsIn K mainGlobals "laid_otherwise" = some (some (.ref f6))) (l6 : K.lookup f6 = some ⟨oc6, od6, .func (PySem.W.fnOf "laid_otherwise" "laid_otherwise" (defArgs s_laid_otherwise) (defBody s_laid_otherwise) (defScope s_laid_otherwise) .none kV6 dc6 pm6 an6 cd6 ct6), sl6⟩) (c6 : PySem.W.codeIn K cd6 "laid_otherwise" = true) (k6 : PySem.W.keepIn K (.ref f6) = true)
    {f7 : Addr} {od7 an7 : Option Addr} {sl7 : Array (Option Value)} {oc7 kV7 dc7 pm7 cd7 ct7 : Value} (a7 : PySem.W.nsIn K mainGlobals "_law_cell" = some (some (.ref f7))) (l7 : K.lookup f7 = some ⟨oc7, od7, .func (PySem.W.fnOf "_law_cell" "_law_cell" (defArgs s_law_cell) (defBody s_law_cell) (defScope s_law_cell) .none kV7 dc7 pm7 an7 cd7 ct7), sl7⟩) (c7 : PySem.W.codeIn K cd7 "_law_cell" = true) (k7 : PySem.W.keepIn K (.ref f7) = true)
    {f8 : Addr} {od8 an8 : Option Addr} {sl8 : Array (Option Value)} {oc8 kV8 dc8 pm8 cd8 ct8 : Value} (a8 : PySem.W.nsIn K mainGlobals "_law_mix" = some (some (.ref f8))) (l8 : K.lookup f8 = some ⟨oc8, od8, .func (PySem.W.fnOf "_law_mix" "_law_mix" (defArgs s_law_mix) (defBody s_law_mix) (defScope s_law_mix) .none kV8 dc8 pm8 an8 cd8 ct8), sl8⟩) (c8 : PySem.W.codeIn K cd8 "_law_mix" = true) (k8 : PySem.W.keepIn K (.ref f8) = true)
    {f9 : Addr} {od9 an9 : Option Addr} {sl9 : Array (Option Value)} {oc9 kV9 dc9 pm9 cd9 ct9 : Value} (a9 : PySem.W.nsIn K mainGlobals "_law_floor" = some (some (.ref f9))) (l9 : K.lookup f9 = some ⟨oc9, od9, .func (PySem.W.fnOf "_law_floor" "_law_floor" (defArgs s_law_floor) (defBody s_law_floor) (defScope s_law_floor) .none kV9 dc9 pm9 an9 cd9 ct9), sl9⟩) (c9 : PySem.W.codeIn K cd9 "_law_floor" = true) (k9 : PySem.W.keepIn K (.ref f9) = true)
    {f10 : Addr} {od10 an10 : Option Addr} {sl10 : Array (Option Value)} {oc10 kV10 dc10 pm10 cd10 ct10 : Value} (a10 : PySem.W.nsIn K mainGlobals "_law_near" = some (some (.ref f10))) (l10 : K.lookup f10 = some ⟨oc10, od10, .func (PySem.W.fnOf "_law_near" "_law_near" (defArgs s_law_near) (defBody s_law_near) (defScope s_law_near) .none kV10 dc10 pm10 an10 cd10 ct10), sl10⟩) (c10 : PySem.W.codeIn K cd10 "_law_near" = true) (k10 : PySem.W.keepIn K (.ref f10) = true)
    {f11 : Addr} {od11 an11 : Option Addr} {sl11 : Array (Option Value)} {oc11 kV11 dc11 pm11 cd11 ct11 : Value} (a11 : PySem.W.nsIn K mainGlobals "_law_every" = some (some (.ref f11))) (l11 : K.lookup f11 = some ⟨oc11, od11, .func (PySem.W.fnOf "_law_every" "_law_every" (defArgs s_law_every) (defBody s_law_every) (defScope s_law_every) .none kV11 dc11 pm11 an11 cd11 ct11), sl11⟩) (c11 : PySem.W.codeIn K cd11 "_law_every" = true) (k11 : PySem.W.keepIn K (.ref f11) = true)
    {f12 : Addr} {od12 an12 : Option Addr} {sl12 : Array (Option Value)} {oc12 kV12 dc12 pm12 cd12 ct12 : Value} (a12 : PySem.W.nsIn K mainGlobals "_law_all" = some (some (.ref f12))) (l12 : K.lookup f12 = some ⟨oc12, od12, .func (PySem.W.fnOf "_law_all" "_law_all" (defArgs s_law_all) (defBody s_law_all) (defScope s_law_all) .none kV12 dc12 pm12 an12 cd12 ct12), sl12⟩) (c12 : PySem.W.codeIn K cd12 "_law_all" = true) (k12 : PySem.W.keepIn K (.ref f12) = true)
    {f13 : Addr} {od13 an13 : Option Addr} {sl13 : Array (Option Value)} {oc13 kV13 dc13 pm13 cd13 ct13 : Value} (a13 : PySem.W.nsIn K mainGlobals "_law_is_laying" = some (some (.ref f13))) (l13 : K.lookup f13 = some ⟨oc13, od13, .func (PySem.W.fnOf "_law_is_laying" "_law_is_laying" (defArgs s_law_is_laying) (defBody s_law_is_laying) (defScope s_law_is_laying) .none kV13 dc13 pm13 an13 cd13 ct13), sl13⟩) (c13 : PySem.W.codeIn K cd13 "_law_is_laying" = true) (k13 : PySem.W.keepIn K (.ref f13) = true)
    {f14 : Addr} {od14 an14 : Option Addr} {sl14 : Array (Option Value)} {oc14 kV14 dc14 pm14 cd14 ct14 : Value} (a14 : PySem.W.nsIn K mainGlobals "_law_pair" = some (some (.ref f14))) (l14 : K.lookup f14 = some ⟨oc14, od14, .func (PySem.W.fnOf "_law_pair" "_law_pair" (defArgs s_law_pair) (defBody s_law_pair) (defScope s_law_pair) .none kV14 dc14 pm14 an14 cd14 ct14), sl14⟩) (c14 : PySem.W.codeIn K cd14 "_law_pair" = true) (k14 : PySem.W.keepIn K (.ref f14) = true)
    {f15 : Addr} {od15 an15 : Option Addr} {sl15 : Array (Option Value)} {oc15 kV15 dc15 pm15 cd15 ct15 : Value} (a15 : PySem.W.nsIn K mainGlobals "_law_is_ring" = some (some (.ref f15))) (l15 : K.lookup f15 = some ⟨oc15, od15, .func (PySem.W.fnOf "_law_is_ring" "_law_is_ring" (defArgs s_law_is_ring) (defBody s_law_is_ring) (defScope s_law_is_ring) .none kV15 dc15 pm15 an15 cd15 ct15), sl15⟩) (c15 : PySem.W.codeIn K cd15 "_law_is_ring" = true) (k15 : PySem.W.keepIn K (.ref f15) = true)
    {f16 : Addr} {od16 an16 : Option Addr} {sl16 : Array (Option Value)} {oc16 kV16 dc16 pm16 cd16 ct16 : Value} (a16 : PySem.W.nsIn K mainGlobals "law" = some (some (.ref f16))) (l16 : K.lookup f16 = some ⟨oc16, od16, .func (PySem.W.fnOf "law" "law" (defArgs s_law) (defBody s_law) (defScope s_law) .none kV16 dc16 pm16 an16 cd16 ct16), sl16⟩) (c16 : PySem.W.codeIn K cd16 "law" = true) (k16 : PySem.W.keepIn K (.ref f16) = true)
    (z_len : PySem.W.nsIn K mainGlobals "len" = some none) (z_range : PySem.W.nsIn K mainGlobals "range" = some none) (z_min : PySem.W.nsIn K mainGlobals "min" = some none) (z_max : PySem.W.nsIn K mainGlobals "max" = some none) (z_tuple : PySem.W.nsIn K mainGlobals "tuple" = some none) (z_sorted : PySem.W.nsIn K mainGlobals "sorted" = some none) (z_isinstance : PySem.W.nsIn K mainGlobals "isinstance" = some none) (z_list : PySem.W.nsIn K mainGlobals "list" = some none) (z_enumerate : PySem.W.nsIn K mainGlobals "enumerate" = some none) (z_all : PySem.W.nsIn K mainGlobals "all" = some none) (z_set : PySem.W.nsIn K mainGlobals "set" = some none)    :
    ∃ fd : FuncData, (∀ (s : Shared) (v : Value), BindsTo s fd ⟨[v], []⟩ [("_law_script", v)]) ∧ ∀ base : Heap, K.In base → base.Ns mainGlobals mg → FnOk l.prog w K mg base CX0 16 fa fd ["_law_script"] (liftG K spTrue) := by
  have e := hfa.symm.trans (PySem.W.mg_of X G a16)
  cases e
  have m_len := PySem.W.mg_none_of X G z_len
  have m_range := PySem.W.mg_none_of X G z_range
  have m_min := PySem.W.mg_none_of X G z_min
  have m_max := PySem.W.mg_none_of X G z_max
  have m_tuple := PySem.W.mg_none_of X G z_tuple
  have m_sorted := PySem.W.mg_none_of X G z_sorted
  have m_isinstance := PySem.W.mg_none_of X G z_isinstance
  have m_list := PySem.W.mg_none_of X G z_list
  have m_enumerate := PySem.W.mg_none_of X G z_enumerate
  have m_all := PySem.W.mg_none_of X G z_all
  have m_set := PySem.W.mg_none_of X G z_set
  have F0 := fun_mk (st := s_covered) l0 c0 k0
  have b0 := F0.binds (ps := P_covered) fun _ _ _ _ _ _ us hl => match us, hl with | [_], _ => rfl
  have g0 := PySem.W.mg_of X G a0
  have F1 := fun_mk (st := s_partners) l1 c1 k1
  have b1 := F1.binds (ps := P_partners) fun _ _ _ _ _ _ us hl => match us, hl with | [_], _ => rfl
  have g1 := PySem.W.mg_of X G a1
  have F2 := fun_mk (st := s_ring_from) l2 c2 k2
  have b2 := F2.binds (ps := P_ring_from) fun _ _ _ _ _ _ us hl => match us, hl with | [_, _, _], _ => rfl
  have g2 := PySem.W.mg_of X G a2
  have F3 := fun_mk (st := s_rings) l3 c3 k3
  have b3 := F3.binds (ps := P_rings) fun _ _ _ _ _ _ us hl => match us, hl with | [_, _], _ => rfl
  have g3 := PySem.W.mg_of X G a3
  have F4 := fun_mk (st := s_stones_along) l4 c4 k4
  have b4 := F4.binds (ps := P_stones_along) fun _ _ _ _ _ _ us hl => match us, hl with | [_, _], _ => rfl
  have g4 := PySem.W.mg_of X G a4
  have F5 := fun_mk (st := s_has_all) l5 c5 k5
  have b5 := F5.binds (ps := P_has_all) fun _ _ _ _ _ _ us hl => match us, hl with | [_, _], _ => rfl
  have g5 := PySem.W.mg_of X G a5
  have F6 := fun_mk (st := s_laid_otherwise) l6 c6 k6
  have b6 := F6.binds (ps := P_laid_otherwise) fun _ _ _ _ _ _ us hl => match us, hl with | [_, _], _ => rfl
  have g6 := PySem.W.mg_of X G a6
  have F7 := fun_mk (st := s_law_cell) l7 c7 k7
  have b7 := F7.binds (ps := P_law_cell) fun _ _ _ _ _ _ us hl => match us, hl with | [_, _], _ => rfl
  have g7 := PySem.W.mg_of X G a7
  have F8 := fun_mk (st := s_law_mix) l8 c8 k8
  have b8 := F8.binds (ps := P_law_mix) fun _ _ _ _ _ _ us hl => match us, hl with | [_, _, _], _ => rfl
  have g8 := PySem.W.mg_of X G a8
  have F9 := fun_mk (st := s_law_floor) l9 c9 k9
  have b9 := F9.binds (ps := P_law_floor) fun _ _ _ _ _ _ us hl => match us, hl with | [_, _], _ => rfl
  have g9 := PySem.W.mg_of X G a9
  have F10 := fun_mk (st := s_law_near) l10 c10 k10
  have b10 := F10.binds (ps := P_law_near) fun _ _ _ _ _ _ us hl => match us, hl with | [_, _], _ => rfl
  have g10 := PySem.W.mg_of X G a10
  have F11 := fun_mk (st := s_law_every) l11 c11 k11
  have b11 := F11.binds (ps := P_law_every) fun _ _ _ _ _ _ us hl => match us, hl with | [_, _], _ => rfl
  have g11 := PySem.W.mg_of X G a11
  have F12 := fun_mk (st := s_law_all) l12 c12 k12
  have b12 := F12.binds (ps := P_law_all) fun _ _ _ _ _ _ us hl => match us, hl with | [_], _ => rfl
  have g12 := PySem.W.mg_of X G a12
  have F13 := fun_mk (st := s_law_is_laying) l13 c13 k13
  have b13 := F13.binds (ps := P_law_is_laying) fun _ _ _ _ _ _ us hl => match us, hl with | [_, _], _ => rfl
  have g13 := PySem.W.mg_of X G a13
  have F14 := fun_mk (st := s_law_pair) l14 c14 k14
  have b14 := F14.binds (ps := P_law_pair) fun _ _ _ _ _ _ us hl => match us, hl with | [_, _], _ => rfl
  have g14 := PySem.W.mg_of X G a14
  have F15 := fun_mk (st := s_law_is_ring) l15 c15 k15
  have b15 := F15.binds (ps := P_law_is_ring) fun _ _ _ _ _ _ us hl => match us, hl with | [_, _, _], _ => rfl
  have g15 := PySem.W.mg_of X G a15
  have F16 := fun_mk (st := s_law) l16 c16 k16
  have g16 := PySem.W.mg_of X G a16
  refine ⟨PySem.W.fnOf "law" "law" (defArgs s_law) (defBody s_law) (defScope s_law) .none kV16 dc16 pm16 an16 cd16 ct16, fun s v => .of_eq rfl, fun base _ _ => ?_⟩
  have D_covered : Df l.prog w K mg base "covered" P_covered 1 (spCovered) := ⟨f0, _, ok_covered F0 m_sorted, g0, k0, b0⟩
  have A_covered : ∃ f', mg "covered" = some (.ref f') ∧ DfA l.prog w K mg base f' P_covered 1 (spCovered) := ⟨f0, g0, _, ok_covered F0 m_sorted, k0, b0⟩
  have D_partners : Df l.prog w K mg base "partners" P_partners 1 (spPartners) := ⟨f1, _, ok_partners F1, g1, k1, b1⟩
  have A_partners : ∃ f', mg "partners" = some (.ref f') ∧ DfA l.prog w K mg base f' P_partners 1 (spPartners) := ⟨f1, g1, _, ok_partners F1, k1, b1⟩
  have D_ring_from : Df l.prog w K mg base "ring_from" P_ring_from 1 (spRingFrom) := ⟨f2, _, ok_ring_from F2, g2, k2, b2⟩
  have A_ring_from : ∃ f', mg "ring_from" = some (.ref f') ∧ DfA l.prog w K mg base f' P_ring_from 1 (spRingFrom) := ⟨f2, g2, _, ok_ring_from F2, k2, b2⟩
  have D_rings : Df l.prog w K mg base "rings" P_rings 2 (spRings) := ⟨f3, _, ok_rings F3 m_len D_partners D_ring_from D_covered, g3, k3, b3⟩
  have A_rings : ∃ f', mg "rings" = some (.ref f') ∧ DfA l.prog w K mg base f' P_rings 2 (spRings) := ⟨f3, g3, _, ok_rings F3 m_len D_partners D_ring_from D_covered, k3, b3⟩
  have D_along : Df l.prog w K mg base "stones_along" P_stones_along 1 (spAlong) := ⟨f4, _, ok_stones_along F4 m_range m_len m_min m_max, g4, k4, b4⟩
  have A_along : ∃ f', mg "stones_along" = some (.ref f') ∧ DfA l.prog w K mg base f' P_stones_along 1 (spAlong) := ⟨f4, g4, _, ok_stones_along F4 m_range m_len m_min m_max, k4, b4⟩
  have D_has_all : Df l.prog w K mg base "has_all" P_has_all 1 (spHasAll) := ⟨f5, _, ok_has_all F5 m_all, g5, k5, b5⟩
  have A_has_all : ∃ f', mg "has_all" = some (.ref f') ∧ DfA l.prog w K mg base f' P_has_all 1 (spHasAll) := ⟨f5, g5, _, ok_has_all F5 m_all, k5, b5⟩
  have D_other : Df l.prog w K mg base "laid_otherwise" P_laid_otherwise 2 (spOther) := ⟨f6, _, ok_laid_otherwise F6 m_tuple m_sorted D_along D_has_all, g6, k6, b6⟩
  have A_other : ∃ f', mg "laid_otherwise" = some (.ref f') ∧ DfA l.prog w K mg base f' P_laid_otherwise 2 (spOther) := ⟨f6, g6, _, ok_laid_otherwise F6 m_tuple m_sorted D_along D_has_all, k6, b6⟩
  have D_law_cell : Df l.prog w K mg base "_law_cell" P_law_cell 1 (spCell) := ⟨f7, _, ok_law_cell F7 m_len, g7, k7, b7⟩
  have A_law_cell : ∃ f', mg "_law_cell" = some (.ref f') ∧ DfA l.prog w K mg base f' P_law_cell 1 (spCell) := ⟨f7, g7, _, ok_law_cell F7 m_len, k7, b7⟩
  have D_law_mix : Df l.prog w K mg base "_law_mix" P_law_mix 1 (spMix) := ⟨f8, _, ok_law_mix F8, g8, k8, b8⟩
  have A_law_mix : ∃ f', mg "_law_mix" = some (.ref f') ∧ DfA l.prog w K mg base f' P_law_mix 1 (spMix) := ⟨f8, g8, _, ok_law_mix F8, k8, b8⟩
  have D_law_floor : Df l.prog w K mg base "_law_floor" P_law_floor 2 (spFloor) := ⟨f9, _, ok_law_floor F9 m_len m_range m_tuple m_max m_min D_law_cell D_law_mix, g9, k9, b9⟩
  have A_law_floor : ∃ f', mg "_law_floor" = some (.ref f') ∧ DfA l.prog w K mg base f' P_law_floor 2 (spFloor) := ⟨f9, g9, _, ok_law_floor F9 m_len m_range m_tuple m_max m_min D_law_cell D_law_mix, k9, b9⟩
  have D_law_near : Df l.prog w K mg base "_law_near" P_law_near 1 (spNear) := ⟨f10, _, ok_law_near F10, g10, k10, b10⟩
  have A_law_near : ∃ f', mg "_law_near" = some (.ref f') ∧ DfA l.prog w K mg base f' P_law_near 1 (spNear) := ⟨f10, g10, _, ok_law_near F10, k10, b10⟩
  have D_law_every : ∀ n, Df l.prog w K mg base "_law_every" P_law_every (n + 2) (spEvery n) := by
    intro n
    induction n with
    | zero => exact ⟨f11, _, ok_law_every 0 F11 m_tuple D_law_near (fun m h => by cases h), g11, k11, b11⟩
    | succ m ih => exact ⟨f11, _, ok_law_every (m + 1) F11 m_tuple D_law_near (fun m' h => by cases h; exact ih), g11, k11, b11⟩
  have D_law_all : Df l.prog w K mg base "_law_all" P_law_all 15 (spAll) := ⟨f12, _, ok_law_all F12 m_tuple m_sorted (D_law_every 12), g12, k12, b12⟩
  have A_law_all : ∃ f', mg "_law_all" = some (.ref f') ∧ DfA l.prog w K mg base f' P_law_all 15 (spAll) := ⟨f12, g12, _, ok_law_all F12 m_tuple m_sorted (D_law_every 12), k12, b12⟩
  have D_islay : Df l.prog w K mg base "_law_is_laying" P_law_is_laying 2 (spIsLay) := ⟨f13, _, ok_law_is_laying F13 m_isinstance m_tuple m_len m_enumerate m_sorted m_list D_law_near, g13, k13, b13⟩
  have A_islay : ∃ f', mg "_law_is_laying" = some (.ref f') ∧ DfA l.prog w K mg base f' P_law_is_laying 2 (spIsLay) := ⟨f13, g13, _, ok_law_is_laying F13 m_isinstance m_tuple m_len m_enumerate m_sorted m_list D_law_near, k13, b13⟩
  have D_law_pair : Df l.prog w K mg base "_law_pair" P_law_pair 1 (spPairSt) := ⟨f14, _, ok_law_pair F14 m_tuple m_sorted, g14, k14, b14⟩
  have A_law_pair : ∃ f', mg "_law_pair" = some (.ref f') ∧ DfA l.prog w K mg base f' P_law_pair 1 (spPairSt) := ⟨f14, g14, _, ok_law_pair F14 m_tuple m_sorted, k14, b14⟩
  have D_law_is_ring : Df l.prog w K mg base "_law_is_ring" P_law_is_ring 2 (spIsRing) := ⟨f15, _, ok_law_is_ring F15 m_isinstance m_list m_len m_min m_range m_set D_law_pair, g15, k15, b15⟩
  have A_law_is_ring : ∃ f', mg "_law_is_ring" = some (.ref f') ∧ DfA l.prog w K mg base f' P_law_is_ring 2 (spIsRing) := ⟨f15, g15, _, ok_law_is_ring F15 m_isinstance m_list m_len m_min m_range m_set D_law_pair, k15, b15⟩
  exact ok_law F16 m_isinstance m_list m_len m_set m_sorted D_law_floor D_law_cell D_law_all D_rings D_law_is_ring D_other D_islay
theorem walk {l : PySem.W.OpenLaw} {q : Program} {loose : List Str} {XP : (Str → Option Value) → Heap → Prop} {YP : World → Heap → Prop} {d : DefRec} {K : Params → PySem.W.Frag} (hn : l.most = some 63) (hdf : d.params.defaults = [])
    (hY : ∀ (w : World) (h : Heap), YP w h → (K w.params).In h)
    (F : ∀ (w : World) (mg : Str → Option Value) (fa : Addr) (h : Heap), (K w.params).In h → h.Ns mainGlobals mg → mg d.name = some (.ref fa) →
      ∃ fd : FuncData, (∀ (s : Shared) (u : Value), BindsTo s fd ⟨[u], []⟩ [("_law_script", u)]) ∧ ∀ base : Heap, (K w.params).In base → base.Ns mainGlobals mg → FnOk l.prog w (K w.params) mg base CX0 16 fa fd ["_law_script"] (liftG (K w.params) spTrue)) :
    PySem.W.WalkO q loose XP YP l.row.toRowW d [] (fun f vs => PySem.call f vs) :=
  L2.walk_of (n := 63) (k := 16) (x := "_law_script") (CX := fun _ => CX0) (sp := fun w => liftG (K w.params) spTrue) hn (by decide) hdf ⟨rfl, by decide, by decide⟩ hY F
    (fun w H a ns hl _ hS => ⟨[.scr ns], g0, fun d _ => d = .bl true, g0_ok, RepL.cons (by rw [hid_g0, Rep]; exact ⟨a, rfl, hS⟩) RepL.nil, ⟨ns, rfl, rfl⟩, fun v H' d G' _ _ r q => by
      subst q
      rw [Rep] at r
      exact r⟩) fun _ _ _ _ _ z => z
end TF
open PySem PySem.W PyProof.Rows
set_option maxRecDepth 100000 in
set_option maxHeartbeats 0 in
theorem PySem.Challenge.cw_tilefloor_k12_whole_rings_holds : PySem.Challenge.rw_tilefloor_k12_whole_rings.Holds := by
  w_on; o_law; k_head; (case hw => w_witness2)
  k_fill
  refine TF.walk (l := PySem.Challenge.rw_tilefloor_k12_whole_rings) rfl rfl (fun w h Y => PySem.W.kIn_of Y) ?F
  case F =>
    intro w mg fa h KX G hmg
    refine' TF.all_mk KX G hmg ?a0 ?l0 ?c0 ?k0 ?a1 ?l1 ?c1 ?k1 ?a2 ?l2 ?c2 ?k2 ?a3 ?l3 ?c3 ?k3 ?a4 ?l4 ?c4 ?k4 ?a5 ?l5 ?c5 ?k5 ?a6 ?l6 ?c6 ?k6 ?a7 ?l7 ?c7 ?k7 ?a8 ?l8 ?c8 ?k8 ?a9 ?l9 ?c9 ?k9 ?a10 ?l10 ?c10 ?k10 ?a11 ?l11 ?c11 ?k11 ?a12 ?l12 ?c12 ?k12 ?a13 ?l13 ?c13 ?k13 ?a14 ?l14 ?c14 ?k14 ?a15 ?l15 ?c15 ?k15 ?a16 ?l16 ?c16 ?k16 ?z_len ?z_range ?z_min ?z_max ?z_tuple ?z_sorted ?z_isinstance ?z_list ?z_enumerate ?z_all ?z_set   
    (case a0 => k_is); (case l0 => k_is); (case c0 => k_is); (case k0 => k_is)
    (case a1 => k_is); (case l1 => k_is); (case c1 => k_is); (case k1 => k_is)
    (case a2 => k_is); (case l2 => k_is); (case c2 => k_is); (case k2 => k_is)
    (case a3 => k_is); (case l3 => k_is); (case c3 => k_is); (case k3 => k_is)
    (case a4 => k_is); (case l4 => k_is); (case c4 => k_is); (case k4 => k_is)
    (case a5 => k_is); (case l5 => k_is); (case c5 => k_is); (case k5 => k_is)
    (case a6 => k_is); (case l6 => k_is); (case c6 => k_is); (case k6 => k_is)
    (case a7 => k_is); (case l7 => k_is); (case c7 => k_is); (case k7 => k_is)
    (case a8 => k_is); (case l8 => k_is); (case c8 => k_is); (case k8 => k_is)
    (case a9 => k_is); (case l9 => k_is); (case c9 => k_is); (case k9 => k_is)
    (case a10 => k_is); (case l10 => k_is); (case c10 => k_is); (case k10 => k_is)
    (case a11 => k_is); (case l11 => k_is); (case c11 => k_is); (case k11 => k_is)
    (case a12 => k_is); (case l12 => k_is); (case c12 => k_is); (case k12 => k_is)
    (case a13 => k_is); (case l13 => k_is); (case c13 => k_is); (case k13 => k_is)
    (case a14 => k_is); (case l14 => k_is); (case c14 => k_is); (case k14 => k_is)
    (case a15 => k_is); (case l15 => k_is); (case c15 => k_is); (case k15 => k_is)
    (case a16 => k_is); (case l16 => k_is); (case c16 => k_is); (case k16 => k_is)
    (case z_len => k_is)
    (case z_range => k_is)
    (case z_min => k_is)
    (case z_max => k_is)
    (case z_tuple => k_is)
    (case z_sorted => k_is)
    (case z_isinstance => k_is)
    (case z_list => k_is)
    (case z_enumerate => k_is)
    (case z_all => k_is)
    (case z_set => k_is)
